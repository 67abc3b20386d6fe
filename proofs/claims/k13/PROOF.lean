import PyProof.Rows.All
import Wide.All
import OpenK.AllK
import Wide.FinOn
import HandS.ForMost
import HandS.Flow
import HandS.Star
import HandS.Style
import HandS.IsInst
import HandS.TupAny
import HandS.Deep
import HandS.Conv
import HandS.Codes
import HandS.HeadHook1
import KE.KeyNested
import KE.KDictKeyed
import KE.KStateDown
import HandS.Exc
import HandS.More
import HandS.Words
import HandS.WordsExc
import HandS.Defaults
import HandS.Head0
import HandS.Head1
import HandS.Head2
import HandS.HeadEnd
import HandS.HeadHook2
import HandS.GenCall
import HandS.GenList
import HandS.DictTup
import KE.KDictWalk
import PyProof.TupleOfGen
import PyProof.CollectIter
import HandS.DictComp
import HandS.IterVal
import KE.KOwnIter
import HandS.SlotsOwn
import KE.GoesZip
import KE.GoesMore
import HandS.WideBits
import KE.IntBitsLaws
import HandS.HeadHook3
import KE.KUnpackStar
import KE.KOpsOwn
import HandS.Property
import HandS.ClsMeth
import HandS.Iter
import HandS.NoneIn
import KE.HD2
import HandS.MakeKwOnly
import KE.KDictDisplayH
import KE.KDictItemsList
import HandS.GenYield
import HandS.FStrTup
import PyProof.ReprNest
import KE.KExcSuper
import KE.KSuper
import HandS.ExcField
import HandS.ExcIs
import HandS.ExcOwn
import HandS.TryMany
import HandS.Text
import KE.DataCmp
import HandS.Zip
import KE.GoesRaise
import HandS.ReplaceLit
import HandS.HotCalls
import PySem.Challenge.RW_lyingstandins_k13_thing_operators
set_option Elab.async false
set_option linter.all false
set_option maxRecDepth 100000
set_option maxHeartbeats 4000000
namespace FL
class HW where h : PySem.Str → Int
instance (priority := low) hw0 : HW := ⟨fun _ => 0⟩
class WW [HW] (w : PySem.World) : Prop where ok : ∀ x, PySem.hashStr w x = HW.h x
instance [HW] {CX : L2.CXT} {P : PySem.Program} {w : PySem.World} {K : PySem.W.Frag} {mg : PySem.Str → Option PySem.Value} {base : PySem.Heap} {N : List PySem.Str} {q : PySem.Str} {sc : PySem.Scope} {f : PySem.Addr} {cd : PySem.Value} {A : PySem.Around} {outer : List PySem.Env} {s : PySem.Shared} {H : L2.Hp} {E : L2.XK} [i : WW w] : WW (L2.cxOf CX P w K mg base N q sc f cd A outer s H E).w := i
variable [HW]
open PySem L2

/-! ### data: what a value is worth, as a tree -/
inductive D where
  | non | bl (b : Bool) | int (i : Int) | str (x : Str) | tup (xs : List D) | lst (xs : List D) | klst (xs : List D) | obj (i : Nat)
  /-- an object that no one changes any more: its class, its attributes in the order in which they came -/
  | ins (c : Str) (fs : List Str) (xs : List D)
  /-- a dict with text keys that no one changes any more -/
  | dct (ks : List Str) (xs : List D)
  /-- a dict whose keys are tuples of bools, ints, None (fz: no one changes it any more) -/
  | dkt (fz : Bool) (ks xs : List D)
  /-- a tuple whose object has no dict -/
  | xtp (xs : List D)
  deriving Inhabited
/-! keys that are tuples of bools, ints, None and such tuples -/
mutual
def nq : D → Option NestedKey
  | .non => some .none
  | .bl b => some (.num (if b then 1 else 0))
  | .int i => some (.num i)
  | .str x => some (.text x)
  | .tup ds => (match nqAll ds with | some ks => some (.tup ks) | none => none)
  | _ => none
def nqAll : List D → Option (List NestedKey)
  | [] => some []
  | d :: ds => (match nq d with | some k => (match nqAll ds with | some ks => some (k :: ks) | none => none) | none => none)
end
mutual
def hsh : NestedKey → Int
  | .none => reduceHash 0xFCA86420
  | .num i => hashInt i
  | .text x => HW.h x
  | .tup ks => reduceHash (Builtin.Tuple.tupleHashOf (hshs ks))
def hshs : List NestedKey → List Int
  | [] => []
  | k :: ks => hsh k :: hshs ks
end
def kents : List NestedKey → List Addr → List Value → List DictEntry
  | n :: ns, a :: as, u :: us => ⟨hsh n, .ref a, u⟩ :: kents ns as us
  | _, _, _ => []
def dkO (D : Addr) (es : List DictEntry) : HO := .ext fun h => (D == sysModules) = false ∧ ∃ o ep, h.get? D = some o ∧ o.ExactDict ∧ o.data = .dict es.toArray ep
def fzO (fz : Bool) (x : Option HO) (u : HO) : Prop := match fz with
  | true => ∃ o, x = some (.frz o u)
  | false => x = some u ∨ ∃ o, x = some (.frz o u)
theorem fzO.one {fz : Bool} {x : Option HO} {u : HO} (h : fzO fz x u) : ∃ v, x = some v ∧ (v = u ∨ ∃ o, v = .frz o u) := by
  cases fz with
  | true => obtain ⟨o, h⟩ := h; exact ⟨_, h, .inr ⟨o, rfl⟩⟩
  | false =>
    rcases h with h | ⟨o, h⟩
    · exact ⟨_, h, .inl rfl⟩
    · exact ⟨_, h, .inr ⟨o, rfl⟩⟩
theorem fzO.map {fz : Bool} {u : HO} {x y : Option HO} (e : ∀ v, x = some v → (v = u ∨ ∃ o, v = .frz o u) → y = some v) (h : fzO fz x u) : fzO fz y u := by
  cases fz with
  | true => obtain ⟨o, h⟩ := h; exact ⟨o, e _ h (.inr ⟨o, rfl⟩)⟩
  | false =>
    rcases h with h | ⟨o, h⟩
    · exact .inl (e _ h (.inl rfl))
    · exact .inr ⟨o, e _ h (.inr ⟨o, rfl⟩)⟩
theorem fzO.mono {fz : Bool} {u : HO} {H H' : Hp} {a : Addr} (e : ∀ o, H a = some o → H' a = some o) (h : fzO fz (H a) u) : fzO fz (H' a) u := h.map fun v q _ => e v q

mutual
inductive Rp (K : PySem.W.Frag) (φ : Nat → Option Addr) (H : Hp) : D → V → Prop
  | non : Rp K φ H .non .non
  | bl (b : Bool) : Rp K φ H (.bl b) (.bl b)
  | int (i : Int) : Rp K φ H (.int i) (.int i)
  | str (x : Str) : Rp K φ H (.str x) (.str x)
  | tup {a : Addr} {vs : List V} {ds : List D} : SqT K H a vs → RpAll K φ H ds vs → Rp K φ H (.tup ds) (.ref a)
  | lst {a : Addr} {vs : List V} {ds : List D} : H a = some (.lst vs) → RpAll K φ H ds vs → Rp K φ H (.lst ds) (.ref a)
  | klst {a : Addr} {vs : List V} {ds : List D} : SqL K H a vs → RpAll K φ H ds vs → Rp K φ H (.klst ds) (.ref a)
  | obj {i : Nat} {a : Addr} (h : φ i = some a) : Rp K φ H (.obj i) (.ref a)
  | dct {a : Addr} {ks : List Str} {vs : List V} {ds : List D} : Rd H a (.dK ((ks.map Sum.inr).zip vs)) → ks.length = vs.length → RpAll K φ H ds vs → Rp K φ H (.dct ks ds) (.ref a)
  | dkt {fz : Bool} {a a' : Addr} {ks ds : List D} {ns : List NestedKey} {as : List Addr} {vs : List V} {us : List Value} : fzO fz (H a) (dkO a' (kents ns as us)) → nqAll ks = some ns → ns.Nodup → NestedKey.depthAll ns ≤ 8 → ks.length = ds.length → ks.length ≤ 1000000 → Vals vs us →
      RpAll K φ H ks (as.map V.ref) → RpAll K φ H ds vs → Rp K φ H (.dkt fz ks ds) (.ref a)
  | xtp {a : Addr} {vs : List V} {ds : List D} {o : Obj} : H a = some (.frz o (.tup vs)) → o.dict = none ∧ o.cls = .type "tuple" → RpAll K φ H ds vs → Rp K φ H (.xtp ds) (.ref a)
  | ins {a dx : Addr} {c : Str} {fs : List Str} {vs : List V} {ds : List D} : H a = some (.ins (He.ga K c) dx (fs.zip vs)) → fs.length = vs.length → RpAll K φ H ds vs → Rp K φ H (.ins c fs ds) (.ref a)
inductive RpAll (K : PySem.W.Frag) (φ : Nat → Option Addr) (H : Hp) : List D → List V → Prop
  | nil : RpAll K φ H [] []
  | cons {d : D} {v : V} {ds : List D} {vs : List V} : Rp K φ H d v → RpAll K φ H ds vs → RpAll K φ H (d :: ds) (v :: vs)
end

section
variable {K : PySem.W.Frag} {φ : Nat → Option Addr} {H H' : Hp}
theorem SqT_same {a : Addr} {xs : List V} (e : Same H H') (h : SqT K H a xs) : SqT K H' a xs := by
  rcases h with (h | ⟨o, h⟩) | h
  · exact .inl (.inl (e _ _ h))
  · exact .inl (.inr ⟨o, e _ _ h⟩)
  · exact .inr h
mutual
theorem Rp.mono (e : Same H H') : ∀ {d : D} {v : V}, Rp K φ H d v → Rp K φ H' d v
  | _, _, .non => .non
  | _, _, .bl b => .bl b
  | _, _, .int i => .int i
  | _, _, .str x => .str x
  | _, _, .tup s r => .tup (SqT_same e s) (RpAll.mono e r)
  | _, _, .lst s r => .lst (e _ _ s) (RpAll.mono e r)
  | _, _, .klst s r => .klst (e.seq s) (RpAll.mono e r)
  | _, _, .obj h => .obj h
  | _, _, .ins s l r => .ins (e _ _ s) l (RpAll.mono e r)
  | _, _, .dct s l r => .dct (s.imp (e _ _) fun ⟨o, h⟩ => ⟨o, e _ _ h⟩) l (RpAll.mono e r)
  | _, _, .dkt s a b c d f g r t => .dkt (s.mono (e _)) a b c d f g (RpAll.mono e r) (RpAll.mono e t)
  | _, _, .xtp s p r => .xtp (e _ _ s) p (RpAll.mono e r)
theorem RpAll.mono (e : Same H H') : ∀ {ds : List D} {vs : List V}, RpAll K φ H ds vs → RpAll K φ H' ds vs
  | _, _, .nil => .nil
  | _, _, .cons r t => .cons (r.mono e) (RpAll.mono e t)
end
theorem RpAll.length : ∀ {ds : List D} {vs : List V}, RpAll K φ H ds vs → ds.length = vs.length
  | _, _, .nil => rfl
  | _, _, .cons _ t => by simp [RpAll.length t]
theorem RpAll.get : ∀ {ds : List D} {vs : List V} {i : Nat} {d : D}, RpAll K φ H ds vs → ds[i]? = some d → ∃ v, vs[i]? = some v ∧ Rp K φ H d v
  | _, _, _, _, .nil, e => by simp at e
  | _, _, 0, _, .cons r _, e => by simp at e; subst e; exact ⟨_, rfl, r⟩
  | _, _, i + 1, d, .cons _ t, e => by
    obtain ⟨u, h1, h2⟩ := RpAll.get (i := i) (d := d) t (by simpa using e)
    exact ⟨u, by simpa using h1, h2⟩
theorem RpAll.append : ∀ {xs ys : List D} {us ws : List V}, RpAll K φ H xs us → RpAll K φ H ys ws → RpAll K φ H (xs ++ ys) (us ++ ws)
  | _, _, _, _, .nil, s => s
  | _, _, _, _, .cons r t, s => .cons r (RpAll.append t s)
theorem RpAll.split : ∀ {xs ys : List D} {us ws : List V}, xs.length = us.length → RpAll K φ H (xs ++ ys) (us ++ ws) → RpAll K φ H xs us ∧ RpAll K φ H ys ws
  | [], _, [], _, _, r => ⟨.nil, r⟩
  | [], _, _ :: _, _, h, _ => by simp at h
  | _ :: _, _, [], _, h, _ => by simp at h
  | _ :: _, _, _ :: _, _, h, .cons q t => let ⟨a, b⟩ := RpAll.split (by simpa using h) t; ⟨.cons q a, b⟩
theorem RpAll.one {d : D} {v : V} (r : Rp K φ H d v) : RpAll K φ H [d] [v] := .cons r .nil
theorem RpAll.take : ∀ {xs : List D} {us : List V} (n : Nat), RpAll K φ H xs us → RpAll K φ H (xs.take n) (us.take n)
  | _, _, 0, _ => .nil
  | _, _, _ + 1, .nil => .nil
  | _, _, n + 1, .cons r t => .cons r (RpAll.take n t)
theorem RpAll.drop : ∀ {xs : List D} {us : List V} (n : Nat), RpAll K φ H xs us → RpAll K φ H (xs.drop n) (us.drop n)
  | _, _, 0, r => r
  | _, _, _ + 1, .nil => .nil
  | _, _, n + 1, .cons _ t => RpAll.drop n t
theorem RpAll.set : ∀ {xs : List D} {us : List V} (n : Nat) {d : D} {v : V}, RpAll K φ H xs us → Rp K φ H d v → RpAll K φ H (xs.set n d) (us.set n v)
  | _, _, _, _, _, .nil, _ => .nil
  | _, _, 0, _, _, .cons _ t, r => .cons r t
  | _, _, n + 1, _, _, .cons q t, r => .cons q (RpAll.set n t r)
theorem RpAll.eraseIdx : ∀ {xs : List D} {us : List V} (n : Nat), RpAll K φ H xs us → RpAll K φ H (xs.eraseIdx n) (us.eraseIdx n)
  | _, _, _, .nil => .nil
  | _, _, 0, .cons _ t => t
  | _, _, n + 1, .cons q t => .cons q (RpAll.eraseIdx n t)
theorem RpAll.reverse : ∀ {xs : List D} {us : List V}, RpAll K φ H xs us → RpAll K φ H xs.reverse us.reverse
  | _, _, .nil => .nil
  | _, _, .cons r t => by
    rw [List.reverse_cons, List.reverse_cons]
    exact (RpAll.reverse t).append (.one r)
end

/-! ### two heaps: what is fixed for good (Hf), and all (H) -/
structure Gr (Hf H Hf' H' : Hp) : Prop where
  f : Same Hf Hf'
  h : Same H H'
  s : Same Hf' H'
  n : ∀ a o, H a = some o → Hf a = none → Hf' a = none
section
variable {Hf H Hf1 H1 Hf2 H2 : Hp}
theorem Gr.refl (s : Same Hf H) : Gr Hf H Hf H := ⟨Same.refl _, Same.refl _, s, fun _ _ _ h => h⟩
theorem Gr.trans (a : Gr Hf H Hf1 H1) (b : Gr Hf1 H1 Hf2 H2) : Gr Hf H Hf2 H2 :=
  ⟨a.f.trans b.f, a.h.trans b.h, b.s, fun x o h1 h2 => b.n x o (a.h _ _ h1) (a.n x o h1 h2)⟩
theorem same_upd {H : Hp} {p : Addr} {o : HO} (h : H p = none) : Same H (upd H p o) := fun b u e => by
  rw [upd_ne (ne_of_none e h)]; exact e
theorem Gr.new (s : Same Hf H) {p : Addr} {o : HO} (hp : H p = none) : Gr Hf H (upd Hf p o) (upd H p o) := by
  have hf : Hf p = none := s.free hp
  refine ⟨same_upd hf, same_upd hp, fun b u e => ?_, fun a u h1 h2 => ?_⟩
  · by_cases hb : b = p
    · subst hb; rw [upd_same] at e ⊢; exact e
    · rw [upd_ne hb] at e ⊢; exact s _ _ e
  · rw [upd_ne (ne_of_none h1 hp)]; exact h2
theorem Gr.own (s : Same Hf H) {p : Addr} {o : HO} (hp : H p = none) : Gr Hf H Hf (upd H p o) :=
  ⟨Same.refl _, same_upd hp, s.trans (same_upd hp), fun _ _ _ h => h⟩
end

/-! ### the slots -/
abbrev Env := List (Option D)
structure SR (K : PySem.W.Frag) (φ : Nat → Option Addr) (Hf0 H0 : Hp) (O : List Nat) (ρ : Env) (σ : St) (Hf H : Hp) : Prop where
  len : ρ.length = σ.length
  sub : Same Hf H
  gf : Same Hf0 Hf
  gh : Same H0 H
  gn : ∀ a o, H0 a = some o → Hf0 a = none → Hf a = none
  val : ∀ i d, ρ[i]? = some (some d) → i ∉ O → ∃ v, σ[i]? = some (some v) ∧ Rp K φ Hf d v
  own : ∀ i d, ρ[i]? = some (some d) → i ∈ O → ∃ a xs vs, d = .lst xs ∧ σ[i]? = some (some (.ref a)) ∧ H a = some (.lst vs) ∧ Hf a = none ∧ H0 a = none ∧ RpAll K φ Hf xs vs
  ne : ∀ i j d e a, ρ[i]? = some (some d) → ρ[j]? = some (some e) → i ∈ O → j ∈ O → i ≠ j → σ[i]? = some (some (.ref a)) → σ[j]? ≠ some (some (.ref a))
section
variable {K : PySem.W.Frag} {φ : Nat → Option Addr} {Hf0 H0 Hf H Hf' H' : Hp} {O : List Nat} {ρ : Env} {σ : St}
theorem SR.gr (S : SR K φ Hf0 H0 O ρ σ Hf H) (g : Gr Hf H Hf' H') : SR K φ Hf0 H0 O ρ σ Hf' H' := by
  refine ⟨S.len, g.s, S.gf.trans g.f, S.gh.trans g.h, fun a o h1 h2 => ?_, fun i d e n => ?_, fun i d e m => ?_, S.ne⟩
  · exact g.n a o (S.gh _ _ h1) (S.gn a o h1 h2)
  · obtain ⟨v, e1, r⟩ := S.val i d e n
    exact ⟨v, e1, r.mono g.f⟩
  · obtain ⟨a, xs, vs, e1, e2, e3, e4, e5, r⟩ := S.own i d e m
    exact ⟨a, xs, vs, e1, e2, g.h _ _ e3, g.n _ _ e3 e4, e5, r.mono g.f⟩
theorem SR.from0 (S : SR K φ Hf0 H0 O ρ σ Hf H) : Gr Hf0 H0 Hf H := ⟨S.gf, S.gh, S.sub, S.gn⟩
theorem SR.set (S : SR K φ Hf0 H0 O ρ σ Hf H) (i : Nat) {d : D} {v : V} (r : Rp K φ Hf d v) : SR K φ Hf0 H0 (O.filter (· != i)) (ρ.set i (some d)) (σ.set i (some v)) Hf H := by
  have mem : ∀ j, j ∈ O.filter (· != i) ↔ j ∈ O ∧ j ≠ i := fun j => by simp [List.mem_filter]
  refine ⟨by simp [S.len], S.sub, S.gf, S.gh, S.gn, fun j e hj hn => ?_, fun j e hj hm => ?_, fun j k e e' a hj hk mj mk hne h1 => ?_⟩
  · by_cases h : j = i
    · subst h
      have hl : j < ρ.length := by
        have := (List.getElem?_eq_some_iff.mp hj).1; simpa using this
      rw [List.getElem?_set_self hl] at hj
      cases hj
      exact ⟨v, List.getElem?_set_self (by rw [← S.len]; exact hl), r⟩
    · rw [List.getElem?_set_ne (Ne.symm h)] at hj ⊢
      exact S.val j e hj fun m => hn ((mem j).mpr ⟨m, h⟩)
  · obtain ⟨m, h⟩ := (mem j).mp hm
    rw [List.getElem?_set_ne (Ne.symm h)] at hj ⊢
    exact S.own j e hj m
  · obtain ⟨m1, n1⟩ := (mem j).mp mj
    obtain ⟨m2, n2⟩ := (mem k).mp mk
    rw [List.getElem?_set_ne (Ne.symm n1)] at hj h1
    rw [List.getElem?_set_ne (Ne.symm n2)] at hk ⊢
    exact S.ne j k e e' a hj hk m1 m2 hne h1
theorem SR.setOwn (S : SR K φ Hf0 H0 O ρ σ Hf H) (i : Nat) {a : Addr} {xs : List D} {vs : List V} (h1 : H a = some (.lst vs)) (h2 : Hf a = none) (h3 : H0 a = none)
    (h4 : ∀ j d, ρ[j]? = some (some d) → j ∈ O → σ[j]? ≠ some (some (.ref a))) (r : RpAll K φ Hf xs vs) : SR K φ Hf0 H0 (i :: O.filter (· != i)) (ρ.set i (some (.lst xs))) (σ.set i (some (.ref a))) Hf H := by
  have mem : ∀ j, j ∈ i :: O.filter (· != i) ↔ j = i ∨ (j ∈ O ∧ j ≠ i) := fun j => by simp [List.mem_filter]
  have lt : ∀ {j e}, (ρ.set i (some (.lst xs)))[j]? = some (some e) → j < ρ.length := fun {j e} hj => by
    have := (List.getElem?_eq_some_iff.mp hj).1; simpa using this
  refine ⟨by simp [S.len], S.sub, S.gf, S.gh, S.gn, fun j e hj hn => ?_, fun j e hj hm => ?_, fun j k e e' b hj hk mj mk hne q1 => ?_⟩
  · have h : j ≠ i := fun h => hn ((mem j).mpr (.inl h))
    rw [List.getElem?_set_ne (Ne.symm h)] at hj ⊢
    exact S.val j e hj fun m => hn ((mem j).mpr (.inr ⟨m, h⟩))
  · by_cases h : j = i
    · subst h
      have hl := lt hj
      rw [List.getElem?_set_self hl] at hj
      cases hj
      exact ⟨a, xs, vs, rfl, List.getElem?_set_self (by rw [← S.len]; exact hl), h1, h2, h3, r⟩
    · have m : j ∈ O := by rcases (mem j).mp hm with z | z; exact absurd z h; exact z.1
      rw [List.getElem?_set_ne (Ne.symm h)] at hj ⊢
      exact S.own j e hj m
  · by_cases hji : j = i
    · subst hji
      have hl := lt hj
      have hkj : k ≠ j := Ne.symm hne
      have mk' : k ∈ O := by rcases (mem k).mp mk with z | z; exact absurd z hkj; exact z.1
      rw [List.getElem?_set_self (by rw [← S.len]; exact hl)] at q1
      cases q1
      rw [List.getElem?_set_ne hne] at hk ⊢
      exact h4 k e' hk mk'
    · have mj' : j ∈ O := by rcases (mem j).mp mj with z | z; exact absurd z hji; exact z.1
      rw [List.getElem?_set_ne (Ne.symm hji)] at hj q1
      by_cases hki : k = i
      · subst hki
        have hl := lt hk
        rw [List.getElem?_set_self (by rw [← S.len]; exact hl)]
        rintro z
        cases z
        exact h4 j e hj mj' q1
      · have mk' : k ∈ O := by rcases (mem k).mp mk with z | z; exact absurd z hki; exact z.1
        rw [List.getElem?_set_ne (Ne.symm hki)] at hk ⊢
        exact S.ne j k e e' b hj hk mj' mk' hne q1
theorem SR.memEq {O' : List Nat} (S : SR K φ Hf0 H0 O ρ σ Hf H) (m : ∀ i, i ∈ O' ↔ i ∈ O) : SR K φ Hf0 H0 O' ρ σ Hf H :=
  ⟨S.len, S.sub, S.gf, S.gh, S.gn, fun i d e n => S.val i d e fun z => n ((m i).mpr z), fun i d e z => S.own i d e ((m i).mp z), fun i j d e a h1 h2 m1 m2 => S.ne i j d e a h1 h2 ((m i).mp m1) ((m j).mp m2)⟩
theorem SR.freeze (S : SR K φ Hf0 H0 O ρ σ Hf H) (i : Nat) : ∃ Hf1, Same Hf Hf1 ∧ SR K φ Hf0 H0 (O.filter (· != i)) ρ σ Hf1 H := by
  have mem : ∀ j, j ∈ O.filter (· != i) ↔ j ∈ O ∧ j ≠ i := fun j => by simp [List.mem_filter]
  have easy : (∀ d, ρ[i]? = some (some d) → i ∉ O) → SR K φ Hf0 H0 (O.filter (· != i)) ρ σ Hf H := fun hno => by
    refine ⟨S.len, S.sub, S.gf, S.gh, S.gn, fun j d e n => ?_, fun j d e m => S.own j d e ((mem j).mp m).1, fun j k d e a h1 h2 m1 m2 => S.ne j k d e a h1 h2 ((mem j).mp m1).1 ((mem k).mp m2).1⟩
    refine S.val j d e fun z => ?_
    by_cases h : j = i
    · subst h; exact hno d e z
    · exact n ((mem j).mpr ⟨z, h⟩)
  by_cases hi : i ∈ O
  · cases hq : ρ[i]? with
    | none => exact ⟨Hf, Same.refl _, easy fun d e => by rw [hq] at e; cases e⟩
    | some od =>
      cases od with
      | none => exact ⟨Hf, Same.refl _, easy fun d e => by rw [hq] at e; cases e⟩
      | some d =>
        obtain ⟨a, xs, vs, e1, e2, e3, e4, e5, r⟩ := S.own i d hq hi
        have sf : Same Hf (upd Hf a (.lst vs)) := same_upd e4
        refine ⟨upd Hf a (.lst vs), sf, S.len, fun b u e => ?_, S.gf.trans sf, S.gh, fun b u h1 h2 => ?_, fun j d' e n => ?_, fun j d' e m => ?_, fun j k d' e' b h1 h2 m1 m2 => S.ne j k d' e' b h1 h2 ((mem j).mp m1).1 ((mem k).mp m2).1⟩
        · by_cases hb : b = a
          · subst hb; rw [upd_same] at e; cases e; exact e3
          · rw [upd_ne hb] at e; exact S.sub _ _ e
        · rw [upd_ne (ne_of_none h1 e5)]; exact S.gn b u h1 h2
        · by_cases h : j = i
          · subst h
            rw [hq] at e; cases e
            subst e1
            exact ⟨.ref a, e2, .lst upd_same (r.mono sf)⟩
          · obtain ⟨v, q1, q2⟩ := S.val j d' e fun z => n ((mem j).mpr ⟨z, h⟩)
            exact ⟨v, q1, q2.mono sf⟩
        · obtain ⟨m1, n1⟩ := (mem j).mp m
          obtain ⟨b, ys, ws, q1, q2, q3, q4, q5, r2⟩ := S.own j d' e m1
          have hba : b ≠ a := by
            rintro rfl
            exact S.ne i j d d' b hq e hi m1 (Ne.symm n1) e2 q2
          exact ⟨b, ys, ws, q1, q2, q3, by rw [upd_ne hba]; exact q4, q5, r2.mono sf⟩
  · exact ⟨Hf, Same.refl _, easy fun _ _ => hi⟩
theorem SR.weak' (S : SR K φ Hf0 H0 O ρ σ Hf H) : ∀ l : List Nat, ∃ Hf1, Same Hf Hf1 ∧ SR K φ Hf0 H0 (O.filter fun j => !l.contains j) ρ σ Hf1 H
  | [] => ⟨Hf, Same.refl _, S.memEq fun i => by simp⟩
  | i :: l => by
    obtain ⟨Hf1, s1, S1⟩ := SR.weak' S l
    obtain ⟨Hf2, s2, S2⟩ := S1.freeze i
    refine ⟨Hf2, s1.trans s2, S2.memEq fun j => ?_⟩
    simp only [List.mem_filter, List.contains_cons, Bool.not_or, Bool.and_eq_true, Bool.not_eq_true', bne_iff_ne, ne_eq, beq_eq_false_iff_ne]
    constructor
    · rintro ⟨a, b, c⟩; exact ⟨⟨a, c⟩, b⟩
    · rintro ⟨⟨a, c⟩, b⟩; exact ⟨a, b, c⟩
theorem SR.weak (S : SR K φ Hf0 H0 O ρ σ Hf H) (L : List Nat) (hL : L.all (O.contains ·) = true) : ∃ Hf1, Same Hf Hf1 ∧ SR K φ Hf0 H0 L ρ σ Hf1 H := by
  obtain ⟨Hf1, s1, S1⟩ := S.weak' (O.filter fun j => !L.contains j)
  refine ⟨Hf1, s1, S1.memEq fun j => ?_⟩
  have hs : ∀ j ∈ L, j ∈ O := fun j hj => by simpa using (List.all_eq_true.mp hL) j hj
  simp only [List.mem_filter, Bool.not_eq_true', List.contains_eq_mem, decide_eq_false_iff_not]
  constructor
  · intro hj; exact ⟨hs j hj, fun z => by simp_all⟩
  · rintro ⟨a, b⟩
    by_cases h : j ∈ L
    · exact h
    · exact absurd (by simp [a, h]) b
end
end FL
namespace FL
variable [HW]
open PySem L2

structure Lk (P : Prop) : Prop where
  h : P
/-! ### the weakest readings -/
def wE (X : Cx) (e : Expr) : TE := fun σ H Q => Lk (∀ pins s, Inv X pins σ H s → wpAny (model X.prog X.w) X.A (eval e X.env) (EP X pins σ Q) X.xe s)
def wT (X : Cx) (e : Expr) : TT := fun σ H Q => Lk (∀ pins s, Inv X pins σ H s → wpAny (model X.prog X.w) X.A (isTrue e X.env (eval e X.env)) (TP X pins σ Q) X.xe s)
def wA (X : Cx) (es : List Expr) : TA := fun σ H Q => Lk (∀ pos pins s, Inv X pins σ H s → wpAny (model X.prog X.w) X.A (spliced (backTo pos (starEach es X.env))) (AP X pins σ Q) X.xe s)
def wS (X : Cx) (st : Stmt) : TS := fun D σ H => Lk (∀ pins s, Inv X pins σ H s → wpAny (model X.prog X.w) X.A (exec st X.env) (SP X pins D) X.xe s)
def wSs (X : Cx) (st : List Stmt) : TS := fun D σ H => Lk (∀ pins s, Inv X pins σ H s → wpAny (model X.prog X.w) X.A (execs st X.env) (SP X pins D) X.xe s)
section
variable {X : Cx} {e : Expr} {es : List Expr} {st : Stmt} {sts : List Stmt} {σ : St} {H : Hp}
theorem peW : PE X e (wE X e) := ⟨fun pins s _ _ _ I h => h.h pins s I⟩
theorem ptW : PT X e (wT X e) := ⟨fun pins s _ _ _ I h => h.h pins s I⟩
theorem paW : PA X es (wA X es) := ⟨fun pos pins s _ _ _ I h => h.h pos pins s I⟩
theorem psW : PS X st (wS X st) := ⟨fun pins s _ _ _ I h => h.h pins s I⟩
theorem pssW : PSs X sts (wSs X sts) := ⟨fun pins s _ _ _ I h => h.h pins s I⟩
theorem toE {t : TE} (h : PE X e t) {Q : VK} (q : t σ H Q) : wE X e σ H Q := ⟨fun pins s I => h.run pins s σ H Q I q⟩
theorem toT {t : TT} (h : PT X e t) {Q : Bool → Hp → Prop} (q : t σ H Q) : wT X e σ H Q := ⟨fun pins s I => h.run pins s σ H Q I q⟩
theorem toA {t : TA} (h : PA X es t) {Q : List V → Hp → Prop} (q : t σ H Q) : wA X es σ H Q := ⟨fun pos pins s I => h.run pos pins s σ H Q I q⟩
theorem toS {t : TS} (h : PS X st t) {Dn : Ends} (q : t Dn σ H) : wS X st Dn σ H := ⟨fun pins s I => h.run pins s σ H Dn I q⟩
theorem toSs {t : TS} (h : PSs X sts t) {Dn : Ends} (q : t Dn σ H) : wSs X sts Dn σ H := ⟨fun pins s I => h.run pins s σ H Dn I q⟩
end

/-! ### a value that may be a list of our own -/
def Rpb (K : PySem.W.Frag) (φ : Nat → Option Addr) (Hf H : Hp) (d : D) (v : V) : Prop :=
  Rp K φ Hf d v ∨ ∃ a xs vs, d = .lst xs ∧ v = .ref a ∧ H a = some (.lst vs) ∧ RpAll K φ Hf xs vs
inductive RpbAll (K : PySem.W.Frag) (φ : Nat → Option Addr) (Hf H : Hp) : List D → List V → Prop
  | nil : RpbAll K φ Hf H [] []
  | cons {d : D} {v : V} {ds : List D} {vs : List V} : Rpb K φ Hf H d v → RpbAll K φ Hf H ds vs → RpbAll K φ Hf H (d :: ds) (v :: vs)
section
variable {K : PySem.W.Frag} {φ : Nat → Option Addr} {Hf H Hf' H' : Hp} {d : D} {v : V}
theorem Rpb.gr (g : Gr Hf H Hf' H') (r : Rpb K φ Hf H d v) : Rpb K φ Hf' H' d v := by
  rcases r with r | ⟨a, xs, vs, h1, h2, h3, h4⟩
  · exact .inl (r.mono g.f)
  · exact .inr ⟨a, xs, vs, h1, h2, g.h _ _ h3, h4.mono g.f⟩
theorem Rpb.all (s : Same Hf H) (r : Rpb K φ Hf H d v) : Rp K φ H d v := by
  rcases r with r | ⟨a, xs, vs, h1, h2, h3, h4⟩
  · exact r.mono s
  · subst h1 h2; exact .lst h3 (h4.mono s)
theorem RpbAll.gr (g : Gr Hf H Hf' H') : ∀ {ds : List D} {vs : List V}, RpbAll K φ Hf H ds vs → RpbAll K φ Hf' H' ds vs
  | _, _, .nil => .nil
  | _, _, .cons r t => .cons (r.gr g) (RpbAll.gr g t)
def scal : D → Bool
  | .non => true | .bl _ => true | .int _ => true | .str _ => true | _ => false
theorem Rp.scal (r : Rp K φ Hf d v) (h : scal d = true) : Rp K φ Hf' d v := by
  cases r <;> first | exact .non | exact .bl _ | exact .int _ | exact .str _ | cases h
end

/-! ### expressions -/
def FE (X : Cx) (O : List Nat) (e : Expr) (F : Env → Option D) : Prop :=
  ∀ (φ : Nat → Option Addr) (Hf0 H0 : Hp) (ρ : Env) (σ : St) (Hf H : Hp) (d : D) (Q : VK), SR X.K φ Hf0 H0 O ρ σ Hf H → F ρ = some d → (∀ v Hf' H', Gr Hf H Hf' H' → Rp X.K φ Hf' d v → Q v H') → wE X e σ H Q
def FB (X : Cx) (O : List Nat) (e : Expr) (F : Env → Option D) : Prop :=
  ∀ (φ : Nat → Option Addr) (Hf0 H0 : Hp) (ρ : Env) (σ : St) (Hf H : Hp) (d : D) (Q : VK), SR X.K φ Hf0 H0 O ρ σ Hf H → F ρ = some d → (∀ v Hf' H', Gr Hf H Hf' H' → Rpb X.K φ Hf' H' d v → Q v H') → wE X e σ H Q
def FN (X : Cx) (O : List Nat) (e : Expr) (F : Env → Option D) : Prop :=
  ∀ (φ : Nat → Option Addr) (Hf0 H0 : Hp) (ρ : Env) (σ : St) (Hf H : Hp) (d : D) (Q : VK), SR X.K φ Hf0 H0 O ρ σ Hf H → F ρ = some d →
    (∀ a xs vs Hf' H', d = .lst xs → Gr Hf H Hf' H' → H a = none → Hf' a = none → H' a = some (.lst vs) → RpAll X.K φ Hf' xs vs → Q (.ref a) H') → wE X e σ H Q
def FT (X : Cx) (O : List Nat) (e : Expr) (F : Env → Option Bool) : Prop :=
  ∀ (φ : Nat → Option Addr) (Hf0 H0 : Hp) (ρ : Env) (σ : St) (Hf H : Hp) (b : Bool) (Q : Bool → Hp → Prop), SR X.K φ Hf0 H0 O ρ σ Hf H → F ρ = some b → (∀ Hf' H', Gr Hf H Hf' H' → Q b H') → wT X e σ H Q
def FA (X : Cx) (O : List Nat) (es : List Expr) (F : Env → Option (List D)) : Prop :=
  ∀ (φ : Nat → Option Addr) (Hf0 H0 : Hp) (ρ : Env) (σ : St) (Hf H : Hp) (ds : List D) (Q : List V → Hp → Prop), SR X.K φ Hf0 H0 O ρ σ Hf H → F ρ = some ds → (∀ vs Hf' H', Gr Hf H Hf' H' → RpAll X.K φ Hf' ds vs → Q vs H') → wA X es σ H Q
def FBA (X : Cx) (O : List Nat) (es : List Expr) (F : Env → Option (List D)) : Prop :=
  ∀ (φ : Nat → Option Addr) (Hf0 H0 : Hp) (ρ : Env) (σ : St) (Hf H : Hp) (ds : List D) (Q : List V → Hp → Prop), SR X.K φ Hf0 H0 O ρ σ Hf H → F ρ = some ds → (∀ vs Hf' H', Gr Hf H Hf' H' → RpbAll X.K φ Hf' H' ds vs → Q vs H') → wA X es σ H Q

/-! ### the mirror's words -/
def eVar (i : Nat) : Env → Option D := fun ρ => match ρ[i]? with | some (some d) => some d | _ => none
def eC (d : D) : Env → Option D := fun _ => some d
def e1 (f : D → Option D) (F : Env → Option D) : Env → Option D := fun ρ => match F ρ with | some d => f d | none => none
def e2 (f : D → D → Option D) (F G : Env → Option D) : Env → Option D := fun ρ => match F ρ with | some d => (match G ρ with | some e => f d e | none => none) | none => none
def eL (f : List D → Option D) (F : Env → Option (List D)) : Env → Option D := fun ρ => match F ρ with | some ds => f ds | none => none
def aNil : Env → Option (List D) := fun _ => some []
def aCons (F : Env → Option D) (G : Env → Option (List D)) : Env → Option (List D) := fun ρ => match F ρ with | some d => (match G ρ with | some ds => some (d :: ds) | none => none) | none => none
def seqD : D → Option (List D)
  | .lst xs => some xs | .klst xs => some xs | .tup xs => some xs | _ => none
def aStar (F : Env → Option D) (G : Env → Option (List D)) : Env → Option (List D) := fun ρ => match F ρ with
  | some d => (match seqD d with | some xs => (match G ρ with | some ds => some (xs ++ ds) | none => none) | none => none) | none => none
def tupD (ds : List D) : Option D := if ds.length ≤ sizeLine then some (.tup ds) else none
def lstD (ds : List D) : Option D := if ds.length ≤ sizeLine then some (.lst ds) else none
def tB (f : D → Option Bool) (F : Env → Option D) : Env → Option Bool := fun ρ => match F ρ with | some d => f d | none => none
def tNot (F : Env → Option Bool) : Env → Option Bool := fun ρ => match F ρ with | some b => some (!b) | none => none
def tAnd (F G : Env → Option Bool) : Env → Option Bool := fun ρ => match F ρ with | some true => G ρ | some false => some false | none => none
def tOr (F G : Env → Option Bool) : Env → Option Bool := fun ρ => match F ρ with | some true => some true | some false => G ρ | none => none
def eIf (C : Env → Option Bool) (F G : Env → Option D) : Env → Option D := fun ρ => match C ρ with | some true => F ρ | some false => G ρ | none => none
def eScal (F : Env → Option D) : Env → Option D := fun ρ => match F ρ with | some d => if scal d = true then some d else none | none => none
def blD : D → Option Bool
  | .bl b => some b | _ => none
def truD : D → Option Bool
  | .non => some false | .bl b => some b | .int i => some (i != 0)
  | .str y => if y.length ≤ sizeLine then some ((y.length : Int) != 0) else none
  | .lst xs => some (!xs.isEmpty) | .klst xs => some (!xs.isEmpty) | .tup xs => some (!xs.isEmpty) | .obj _ => none | .ins _ _ _ => none | .dct _ _ => none | .dkt _ _ _ => none | .xtp _ => none

section
variable {X : Cx} {O : List Nat} {e a b : Expr} {es : List Expr} {pos : Pos} {F G : Env → Option D} {Fs : Env → Option (List D)}
theorem e1_some {f : D → Option D} {ρ : Env} {d : D} (h : e1 f F ρ = some d) : ∃ x, F ρ = some x ∧ f x = some d := by
  unfold e1 at h; cases q : F ρ with
  | none => rw [q] at h; cases h
  | some x => rw [q] at h; exact ⟨x, rfl, h⟩
theorem e2_some {f : D → D → Option D} {ρ : Env} {d : D} (h : e2 f F G ρ = some d) : ∃ x y, F ρ = some x ∧ G ρ = some y ∧ f x y = some d := by
  unfold e2 at h; cases q : F ρ with
  | none => rw [q] at h; cases h
  | some x =>
    rw [q] at h
    cases q2 : G ρ with
    | none => simp only [q2] at h; cases h
    | some y => simp only [q2] at h; exact ⟨x, y, rfl, rfl, h⟩
theorem eL_some {f : List D → Option D} {ρ : Env} {d : D} (h : eL f Fs ρ = some d) : ∃ x, Fs ρ = some x ∧ f x = some d := by
  unfold eL at h; cases q : Fs ρ with
  | none => rw [q] at h; cases h
  | some x => rw [q] at h; exact ⟨x, rfl, h⟩
theorem tB_some {f : D → Option Bool} {ρ : Env} {d : Bool} (h : tB f F ρ = some d) : ∃ x, F ρ = some x ∧ f x = some d := by
  unfold tB at h; cases q : F ρ with
  | none => rw [q] at h; cases h
  | some x => rw [q] at h; exact ⟨x, rfl, h⟩

theorem fb_of (h : FE X O e F) : FB X O e F := fun φ Hf0 H0 ρ σ Hf H d Q S hF k => h φ Hf0 H0 ρ σ Hf H d Q S hF fun v Hf' H' g r => k v Hf' H' g (.inl r)
theorem fe_of_fn (h : FN X O e F) : FE X O e F := fun φ Hf0 H0 ρ σ Hf H d Q S hF k => h φ Hf0 H0 ρ σ Hf H d Q S hF fun a xs vs Hf' H' hd g h1 h2 h3 r => by
  subst hd
  have sf : Same Hf' (upd Hf' a (.lst vs)) := same_upd h2
  refine k (.ref a) (upd Hf' a (.lst vs)) H' ⟨g.f.trans sf, g.h, fun b u q => ?_, fun b u q1 q2 => ?_⟩ (.lst upd_same (r.mono sf))
  · by_cases hb : b = a
    · subst hb; rw [upd_same] at q; cases q; exact h3
    · rw [upd_ne hb] at q; exact g.s _ _ q
  · rw [upd_ne (ne_of_none q1 h1)]; exact g.n b u q1 q2
theorem fb_var {i : Nat} {x : Str} (hN : X.N[i]? = some x) (hv : Vis X.env.scope x) (hd : (x == ("__debug__" : Str)) = false := by decide +kernel) (hcd : (x == ("__classdict__" : Str)) = false := by decide +kernel) : FB X O (.Name x pos) (eVar i) := by
  intro φ Hf0 H0 ρ σ Hf H d Q S hF k
  have hq : ρ[i]? = some (some d) := by
    unfold eVar at hF
    split at hF
    · rename_i d' h; cases hF; exact h
    · cases hF
  refine toE (pe_var hN hv hd hcd) ?_
  by_cases hi : i ∈ O
  · obtain ⟨a, xs, vs, e1, e2, e3, e4, e5, r⟩ := S.own i d hq hi
    exact ⟨_, e2, k _ Hf H (.refl S.sub) (.inr ⟨a, xs, vs, e1, rfl, e3, r⟩)⟩
  · obtain ⟨v, e1, r⟩ := S.val i d hq hi
    exact ⟨v, e1, k v Hf H (.refl S.sub) (.inl r)⟩
theorem fe_var {i : Nat} {x : Str} (hN : X.N[i]? = some x) (hv : Vis X.env.scope x) (hO : O.contains i = false) (hd : (x == ("__debug__" : Str)) = false := by decide +kernel) (hcd : (x == ("__classdict__" : Str)) = false := by decide +kernel) : FE X O (.Name x pos) (eVar i) := by
  intro φ Hf0 H0 ρ σ Hf H d Q S hF k
  have hq : ρ[i]? = some (some d) := by
    unfold eVar at hF
    split at hF
    · rename_i d' h; cases hF; exact h
    · cases hF
  refine toE (pe_var hN hv hd hcd) ?_
  have hi : i ∉ O := by simpa using hO
  obtain ⟨v, e1, r⟩ := S.val i d hq hi
  exact ⟨v, e1, k v Hf H (.refl S.sub) r⟩
theorem fe_int {i : Int} {j} : FE X O (.Constant (.int i) j pos) (eC (.int i)) := fun φ Hf0 H0 ρ σ Hf H d Q S hF k => by cases hF; exact toE pe_int (k _ Hf H (.refl S.sub) (.int i))
theorem fe_bl {i : Bool} {j} : FE X O (.Constant (.bool i) j pos) (eC (.bl i)) := fun φ Hf0 H0 ρ σ Hf H d Q S hF k => by cases hF; exact toE pe_bl (k _ Hf H (.refl S.sub) (.bl i))
theorem fe_non {j} : FE X O (.Constant .none j pos) (eC .non) := fun φ Hf0 H0 ρ σ Hf H d Q S hF k => by cases hF; exact toE pe_non (k _ Hf H (.refl S.sub) .non)
theorem fe_str {x : Str} {j} : FE X O (.Constant (.str x) j pos) (eC (.str x)) := fun φ Hf0 H0 ρ σ Hf H d Q S hF k => by cases hF; exact toE pe_str (k _ Hf H (.refl S.sub) (.str x))
def RpK (K : PySem.W.Frag) (d : D) (v : V) : Prop := ∀ φ H, Rp K φ H d v
theorem fa_nil : FA X O [] aNil := fun φ Hf0 H0 ρ σ Hf H d Q S hF k => by cases hF; exact toA pa_nil (k [] Hf H (.refl S.sub) .nil)
theorem fa_cons (h : FE X O e F) (t : FA X O es Fs) (hs : starEach (e :: es) X.env = (false, eval e X.env) :: starEach es X.env := by rfl) : FA X O (e :: es) (aCons F Fs) := by
  intro φ Hf0 H0 ρ σ Hf H ds Q S hF k
  unfold aCons at hF
  split at hF
  · rename_i d h1
    split at hF
    · rename_i ds' h2
      cases hF
      refine toA (pa_cons (peW (e := e)) (paW (es := es)) hs) ?_
      refine h φ Hf0 H0 ρ σ Hf H d _ S h1 fun v Hf1 H1 g1 r1 => ?_
      refine t φ Hf0 H0 ρ σ Hf1 H1 ds' _ (S.gr g1) h2 fun vs Hf2 H2 g2 r2 => ?_
      exact k (v :: vs) Hf2 H2 (g1.trans g2) (.cons (r1.mono g2.f) r2)
    · cases hF
  · cases hF
theorem fba_nil : FBA X O [] aNil := fun φ Hf0 H0 ρ σ Hf H d Q S hF k => by cases hF; exact toA pa_nil (k [] Hf H (.refl S.sub) .nil)
theorem fba_cons (h : FB X O e F) (t : FBA X O es Fs) (hs : starEach (e :: es) X.env = (false, eval e X.env) :: starEach es X.env := by rfl) : FBA X O (e :: es) (aCons F Fs) := by
  intro φ Hf0 H0 ρ σ Hf H ds Q S hF k
  unfold aCons at hF
  split at hF
  · rename_i d h1
    split at hF
    · rename_i ds' h2
      cases hF
      refine toA (pa_cons (peW (e := e)) (paW (es := es)) hs) ?_
      refine h φ Hf0 H0 ρ σ Hf H d _ S h1 fun v Hf1 H1 g1 r1 => ?_
      refine t φ Hf0 H0 ρ σ Hf1 H1 ds' _ (S.gr g1) h2 fun vs Hf2 H2 g2 r2 => ?_
      exact k (v :: vs) Hf2 H2 (g1.trans g2) (.cons (r1.gr g2) r2)
    · cases hF
  · cases hF
theorem Rpb.seq {K : PySem.W.Frag} {φ : Nat → Option Addr} {Hf H : Hp} {d : D} {v : V} {xs : List D} (s : Same Hf H) (r : Rpb K φ Hf H d v) (h : seqD d = some xs) : ∃ p vs, v = .ref p ∧ (SqL K H p vs ∨ SqT K H p vs) ∧ RpAll K φ Hf xs vs := by
  rcases r with r | ⟨a, ys, vs, h1, h2, h3, h4⟩
  · cases r with
    | tup q r => cases h; exact ⟨_, _, rfl, .inr (SqT_same s q), r⟩
    | lst q r => cases h; exact ⟨_, _, rfl, .inl (.inl (.inl (s _ _ q))), r⟩
    | klst q r => cases h; exact ⟨_, _, rfl, .inl (s.seq q), r⟩
    | _ => cases h
  · subst h1 h2
    cases h
    exact ⟨_, _, rfl, .inl (.inl (.inl h3)), h4⟩
theorem fe_tup {x1} (h : FA X O es Fs) : FE X O (.Tuple es x1 pos) (eL tupD Fs) := by
  intro φ Hf0 H0 ρ σ Hf H d Q S hF k
  obtain ⟨ds, h1, h2⟩ := eL_some hF
  unfold tupD at h2
  split at h2
  · rename_i hl
    cases h2
    refine toE (pe_tup (paW (es := es))) ?_
    refine h φ Hf0 H0 ρ σ Hf H ds _ S h1 fun vs Hf1 H1 g1 r1 => ?_
    refine ⟨by rw [← r1.length]; exact hl, fun p hp => ?_⟩
    have g2 : Gr Hf1 H1 (upd Hf1 p (.tup vs)) (upd H1 p (.tup vs)) := .new g1.s hp
    exact k _ _ _ (g1.trans g2) (.tup (.inl (.inl upd_same)) (r1.mono g2.f))
  · cases h2
theorem fn_lst (h : FA X O es Fs) : FN X O (.List es pos) (eL lstD Fs) := by
  intro φ Hf0 H0 ρ σ Hf H d Q S hF k
  obtain ⟨ds, h1, h2⟩ := eL_some hF
  unfold lstD at h2
  split at h2
  · rename_i hl
    cases h2
    refine toE (pe_lst (paW (es := es))) ?_
    refine h φ Hf0 H0 ρ σ Hf H ds _ S h1 fun vs Hf1 H1 g1 r1 => ?_
    refine ⟨by rw [← r1.length]; exact hl, fun p hp => ?_⟩
    have g2 : Gr Hf1 H1 Hf1 (upd H1 p (.lst vs)) := .own g1.s hp
    exact k p ds vs _ _ rfl (g1.trans g2) (g1.h.free hp) (g1.s.free hp) upd_same r1
  · cases h2
/-! ### operations by values -/
def Op2 (K : PySem.W.Frag) (r : R2) (f : D → D → Option D) : Prop := ∀ (φ : Nat → Option Addr) (Hf H : Hp) (x y d : D) (v u : V) (Q : VK), Same Hf H → Rpb K φ Hf H x v → Rpb K φ Hf H y u → f x y = some d → (∀ z Hf' H', Gr Hf H Hf' H' → Rp K φ Hf' d z → Q z H') → r v u H Q
def Op2N (K : PySem.W.Frag) (r : R2) (f : D → D → Option D) : Prop := ∀ (φ : Nat → Option Addr) (Hf H : Hp) (x y d : D) (v u : V) (Q : VK), Same Hf H → Rpb K φ Hf H x v → Rpb K φ Hf H y u → f x y = some d →
  (∀ a xs vs H', d = .lst xs → Gr Hf H Hf H' → H a = none → H' a = some (.lst vs) → RpAll K φ Hf xs vs → Q (.ref a) H') → r v u H Q
def OpL (K : PySem.W.Frag) (r : List V → Hp → VK → Prop) (f : List D → Option D) : Prop := ∀ (φ : Nat → Option Addr) (Hf H : Hp) (xs : List D) (d : D) (vs : List V) (Q : VK), Same Hf H → RpbAll K φ Hf H xs vs → f xs = some d → (∀ z Hf' H', Gr Hf H Hf' H' → Rp K φ Hf' d z → Q z H') → r vs H Q
def OpLN (K : PySem.W.Frag) (r : List V → Hp → VK → Prop) (f : List D → Option D) : Prop := ∀ (φ : Nat → Option Addr) (Hf H : Hp) (xs : List D) (d : D) (vs : List V) (Q : VK), Same Hf H → RpbAll K φ Hf H xs vs → f xs = some d →
  (∀ a ys us H', d = .lst ys → Gr Hf H Hf H' → H a = none → H' a = some (.lst us) → RpAll K φ Hf ys us → Q (.ref a) H') → r vs H Q
theorem two {φ : Nat → Option Addr} {Hf0 H0 : Hp} {ρ : Env} {σ : St} {Hf H : Hp} {x y : D} {R : V → V → Hp → Prop} (ha : FB X O a F) (hb : FB X O b G) (S : SR X.K φ Hf0 H0 O ρ σ Hf H) (h1 : F ρ = some x) (h2 : G ρ = some y)
    (k : ∀ v u Hf' H', Gr Hf H Hf' H' → Rpb X.K φ Hf' H' x v → Rpb X.K φ Hf' H' y u → R v u H') : wE X a σ H fun v H1 => wE X b σ H1 fun u H2 => R v u H2 :=
  ha φ Hf0 H0 ρ σ Hf H x _ S h1 fun v Hf1 H1 g1 r1 => hb φ Hf0 H0 ρ σ Hf1 H1 y _ (S.gr g1) h2 fun u Hf2 H2 g2 r2 => k v u Hf2 H2 (g1.trans g2) (r1.gr g2) r2
theorem fe_op {op : Operator} {r : R2} {f : D → D → Option D} (ho : OpR X (binaryOp op) r) (hr : Op2 X.K r f) (ha : FB X O a F) (hb : FB X O b G) : FE X O (.BinOp a op b pos) (e2 f F G) := by
  intro φ Hf0 H0 ρ σ Hf H d Q S hF k
  obtain ⟨x, y, h1, h2, h3⟩ := e2_some hF
  exact toE (pe_op ho peW peW) (two ha hb S h1 h2 fun v u Hf1 H1 g r1 r2 => hr φ Hf1 H1 x y d v u Q g.s r1 r2 h3 fun z Hf2 H2 g2 r3 => k z Hf2 H2 (g.trans g2) r3)
theorem fe_cmp {op : CmpOp} {r : R2} {f : D → D → Option D} (ho : OpR X (compareOp op) r) (hr : Op2 X.K r f) (ha : FB X O a F) (hb : FB X O b G) (hm : behindInMarks op b = false) : FE X O (.Compare a [op] [b] pos) (e2 f F G) := by
  intro φ Hf0 H0 ρ σ Hf H d Q S hF k
  obtain ⟨x, y, h1, h2, h3⟩ := e2_some hF
  exact toE (pe_cmpR ho peW peW hm) (two ha hb S h1 h2 fun v u Hf1 H1 g r1 r2 => hr φ Hf1 H1 x y d v u Q g.s r1 r2 h3 fun z Hf2 H2 g2 r3 => k z Hf2 H2 (g.trans g2) r3)
theorem ft_cmp {op : CmpOp} {r : R2} {f : D → D → Option D} (ho : OpR X (compareOp op) r) (hr : Op2 X.K r f) (ha : FB X O a F) (hb : FB X O b G) (hm : behindInMarks op b = false) : FT X O (.Compare a [op] [b] pos) (tB blD (e2 f F G)) := by
  intro φ Hf0 H0 ρ σ Hf H c Q S hF k
  obtain ⟨d, hd, hc⟩ := tB_some hF
  obtain ⟨x, y, h1, h2, h3⟩ := e2_some hd
  cases d <;> first | cases hc | skip
  refine toT (pt_cmpR ho peW peW hm) (two ha hb S h1 h2 fun v u Hf1 H1 g r1 r2 => hr φ Hf1 H1 x y _ v u _ g.s r1 r2 h3 fun z Hf2 H2 g2 r3 => ?_)
  cases r3
  exact ⟨_, rfl, k Hf2 H2 (g.trans g2)⟩
theorem fe_ix {r : R2} {f : D → D → Option D} (ho : IxR X r) (hr : Op2 X.K r f) (ha : FB X O a F) (hb : FB X O b G) (hs : PlainIx b) : FE X O (.Subscript a b pos) (e2 f F G) := by
  intro φ Hf0 H0 ρ σ Hf H d Q S hF k
  obtain ⟨x, y, h1, h2, h3⟩ := e2_some hF
  exact toE (pe_ix ho peW peW hs) (two ha hb S h1 h2 fun v u Hf1 H1 g r1 r2 => hr φ Hf1 H1 x y d v u Q g.s r1 r2 h3 fun z Hf2 H2 g2 r3 => k z Hf2 H2 (g.trans g2) r3)
theorem ft_val (h : FE X O e F) (he : ∀ whole, isTrue e X.env whole = (do let v ← whole; standAt e.pos; holding [v] (truthy v)) := by intro _; rfl) : FT X O e (tB truD F) := by
  intro φ Hf0 H0 ρ σ Hf H c Q S hF k
  obtain ⟨d, hd, hc⟩ := tB_some hF
  refine toT (pt_truth peW he) ?_
  refine h φ Hf0 H0 ρ σ Hf H d _ S hd fun v Hf1 H1 g1 r1 => ⟨c, ?_, k Hf1 H1 g1⟩
  cases r1 <;> simp only [truD] at hc <;> try (cases hc; rfl)
  case str y => split at hc; rename_i hl; cases hc; exact ⟨hl, rfl⟩; cases hc
  case tup q r => cases hc; refine .inr (.inl ⟨_, SqT_same g1.s q, ?_⟩); cases r <;> rfl
  case lst q r => cases hc; refine .inl ⟨_, .inl (.inl (g1.s _ _ q)), ?_⟩; cases r <;> rfl
  case klst q r => cases hc; refine .inl ⟨_, g1.s.seq q, ?_⟩; cases r <;> rfl
  case obj => cases hc
  case ins => cases hc
  case dct => cases hc
  case dkt => cases hc
  case xtp => cases hc
theorem ft_not {T : Env → Option Bool} (h : FT X O e T) : FT X O (.UnaryOp .Not e pos) (tNot T) := by
  intro φ Hf0 H0 ρ σ Hf H c Q S hF k
  unfold tNot at hF
  split at hF
  · rename_i b hb
    cases hF
    exact toT (pt_not ptW) (h φ Hf0 H0 ρ σ Hf H b _ S hb fun Hf1 H1 g1 => k Hf1 H1 g1)
  · cases hF
def FW (X : Cx) (O : List Nat) (e : Expr) (F : Env → Option Bool) : Prop :=
  ∃ t : TT, PW X e t ∧ ∀ (φ : Nat → Option Addr) (Hf0 H0 : Hp) (ρ : Env) (σ : St) (Hf H : Hp) (b : Bool) (Q : Bool → Hp → Prop), SR X.K φ Hf0 H0 O ρ σ Hf H → F ρ = some b → (∀ Hf' H', Gr Hf H Hf' H' → Q b H') → t σ H Q
theorem ft_w {T : Env → Option Bool} (h : FW X O e T) : FT X O e T := by
  obtain ⟨t, p, h⟩ := h
  intro φ Hf0 H0 ρ σ Hf H c Q S hF k
  exact toT p.pt (h φ Hf0 H0 ρ σ Hf H c Q S hF k)
theorem fw_and1 {T : Env → Option Bool} (h : FT X O e T) : FW X O (.BoolOp .And [e] pos) T := ⟨_, pw_and1 ptW, h⟩
theorem fw_or1 {T : Env → Option Bool} (h : FT X O e T) : FW X O (.BoolOp .Or [e] pos) T := ⟨_, pw_or1 ptW, h⟩
theorem fw_and {rest : List Expr} {T U : Env → Option Bool} (h : FT X O a T) (h2 : FW X O (.BoolOp .And (b :: rest) pos) U) : FW X O (.BoolOp .And (a :: b :: rest) pos) (tAnd T U) := by
  obtain ⟨t, p, h2⟩ := h2
  refine ⟨_, pw_and ptW p, fun φ Hf0 H0 ρ σ Hf H c Q S hF k => ?_⟩
  unfold tAnd at hF
  split at hF
  · rename_i hb
    refine h φ Hf0 H0 ρ σ Hf H true _ S hb fun Hf1 H1 g1 => ?_
    exact iteT (h2 φ Hf0 H0 ρ σ Hf1 H1 c Q (S.gr g1) hF fun Hf2 H2 g2 => k Hf2 H2 (g1.trans g2))
  · rename_i hb
    cases hF
    exact h φ Hf0 H0 ρ σ Hf H false _ S hb fun Hf1 H1 g1 => iteF (k Hf1 H1 g1)
  · cases hF
theorem fw_or {rest : List Expr} {T U : Env → Option Bool} (h : FT X O a T) (h2 : FW X O (.BoolOp .Or (b :: rest) pos) U) : FW X O (.BoolOp .Or (a :: b :: rest) pos) (tOr T U) := by
  obtain ⟨t, p, h2⟩ := h2
  refine ⟨_, pw_or ptW p, fun φ Hf0 H0 ρ σ Hf H c Q S hF k => ?_⟩
  unfold tOr at hF
  split at hF
  · rename_i hb
    cases hF
    exact h φ Hf0 H0 ρ σ Hf H true _ S hb fun Hf1 H1 g1 => iteT (k Hf1 H1 g1)
  · rename_i hb
    refine h φ Hf0 H0 ρ σ Hf H false _ S hb fun Hf1 H1 g1 => ?_
    exact iteF (h2 φ Hf0 H0 ρ σ Hf1 H1 c Q (S.gr g1) hF fun Hf2 H2 g2 => k Hf2 H2 (g1.trans g2))
  · cases hF
theorem fe_if {c : Expr} {T : Env → Option Bool} (h : FT X O c T) (h1 : FE X O a F) (h2 : FE X O b G) : FE X O (.IfExp c a b pos) (eIf T F G) := by
  intro φ Hf0 H0 ρ σ Hf H d Q S hF k
  refine toE (pe_ifExp ptW peW peW) ?_
  unfold eIf at hF
  split at hF
  · rename_i hb
    exact h φ Hf0 H0 ρ σ Hf H true _ S hb fun Hf1 H1 g1 => iteT (h1 φ Hf0 H0 ρ σ Hf1 H1 d Q (S.gr g1) hF fun v Hf2 H2 g2 r => k v Hf2 H2 (g1.trans g2) r)
  · rename_i hb
    exact h φ Hf0 H0 ρ σ Hf H false _ S hb fun Hf1 H1 g1 => iteF (h2 φ Hf0 H0 ρ σ Hf1 H1 d Q (S.gr g1) hF fun v Hf2 H2 g2 r => k v Hf2 H2 (g1.trans g2) r)
  · cases hF
/-! and, or, not as values -/
def eAnd (F G : Env → Option D) : Env → Option D := fun ρ => match F ρ with | some d => (match truD d with | some true => G ρ | some false => some d | none => none) | none => none
def eOr (F G : Env → Option D) : Env → Option D := fun ρ => match F ρ with | some d => (match truD d with | some true => some d | some false => G ρ | none => none) | none => none
def notD (d : D) : Option D := match truD d with | some b => some (.bl (!b)) | none => none
theorem tru_of {K : PySem.W.Frag} {φ : Nat → Option Addr} {Hf H : Hp} {d : D} {v : V} {c : Bool} (s : Same Hf H) (r1 : Rp K φ Hf d v) (hc : truD d = some c) : TruV K v H c := by
  cases r1 <;> simp only [truD] at hc <;> try (cases hc; rfl)
  case str y => split at hc; rename_i hl; cases hc; exact ⟨hl, rfl⟩; cases hc
  case tup q r => cases hc; refine .inr (.inl ⟨_, SqT_same s q, ?_⟩); cases r <;> rfl
  case lst q r => cases hc; refine .inl ⟨_, .inl (.inl (s _ _ q)), ?_⟩; cases r <;> rfl
  case klst q r => cases hc; refine .inl ⟨_, s.seq q, ?_⟩; cases r <;> rfl
  case obj => cases hc
  case ins => cases hc
  case dct => cases hc
  case dkt => cases hc
  case xtp => cases hc
theorem fe_and {rest : List Expr} (h : FE X O a F) (h2 : FE X O (.BoolOp .And (b :: rest) pos) G) : FE X O (.BoolOp .And (a :: b :: rest) pos) (eAnd F G) := by
  intro φ Hf0 H0 ρ σ Hf H d Q S hF k
  refine toE (pe_andT peW peW) ?_
  unfold eAnd at hF
  split at hF
  · rename_i x hx
    refine h φ Hf0 H0 ρ σ Hf H x _ S hx fun v Hf1 H1 g1 r1 => ?_
    split at hF
    · rename_i ht
      exact ⟨true, tru_of g1.s r1 ht, iteT (h2 φ Hf0 H0 ρ σ Hf1 H1 d Q (S.gr g1) hF fun v Hf2 H2 g2 r => k v Hf2 H2 (g1.trans g2) r)⟩
    · rename_i ht
      cases hF
      exact ⟨false, tru_of g1.s r1 ht, iteF (k v Hf1 H1 g1 r1)⟩
    · cases hF
  · cases hF
theorem fe_or {rest : List Expr} (h : FE X O a F) (h2 : FE X O (.BoolOp .Or (b :: rest) pos) G) : FE X O (.BoolOp .Or (a :: b :: rest) pos) (eOr F G) := by
  intro φ Hf0 H0 ρ σ Hf H d Q S hF k
  refine toE (pe_orT peW peW) ?_
  unfold eOr at hF
  split at hF
  · rename_i x hx
    refine h φ Hf0 H0 ρ σ Hf H x _ S hx fun v Hf1 H1 g1 r1 => ?_
    split at hF
    · rename_i ht
      cases hF
      exact ⟨true, tru_of g1.s r1 ht, iteT (k v Hf1 H1 g1 r1)⟩
    · rename_i ht
      exact ⟨false, tru_of g1.s r1 ht, iteF (h2 φ Hf0 H0 ρ σ Hf1 H1 d Q (S.gr g1) hF fun v Hf2 H2 g2 r => k v Hf2 H2 (g1.trans g2) r)⟩
    · cases hF
  · cases hF
theorem fe_one {op : BoolOp} (h : FE X O a F) : FE X O (.BoolOp op [a] pos) F := by
  intro φ Hf0 H0 ρ σ Hf H d Q S hF k
  exact toE (pe_one peW) (h φ Hf0 H0 ρ σ Hf H d Q S hF k)
theorem fe_not (h : FE X O a F) : FE X O (.UnaryOp .Not a pos) (e1 notD F) := by
  intro φ Hf0 H0 ρ σ Hf H d Q S hF k
  obtain ⟨x, h1, h2⟩ := e1_some hF
  refine toE (pe_notT peW) ?_
  refine h φ Hf0 H0 ρ σ Hf H x _ S h1 fun v Hf1 H1 g1 r1 => ?_
  unfold notD at h2
  split at h2
  · rename_i c hc
    cases h2
    exact ⟨c, tru_of g1.s r1 hc, k _ Hf1 H1 g1 (.bl _)⟩
  · cases h2
end
end FL
namespace FL
variable [HW]
open PySem L2

/-! ### the value operations of the mirror -/
mutual
def toPy : D → PyData
  | .non => .none | .bl b => .bool b | .int i => .int i | .str x => .str x
  | .tup xs => .tuple (toPyAll xs) | .lst xs => .list (toPyAll xs) | .klst xs => .list (toPyAll xs) | .obj _ => .dict [] | .ins _ _ _ => .dict [] | .dct _ _ => .dict [] | .dkt _ _ _ => .dict [] | .xtp _ => .dict []
def toPyAll : List D → List PyData
  | [] => [] | x :: xs => toPy x :: toPyAll xs
end
mutual
def deq : D → D → Bool
  | .non, .non => true
  | .bl a, .bl b => a == b
  | .bl a, .int j => (if a then 1 else 0) == j
  | .int i, .bl b => i == (if b then 1 else 0)
  | .int i, .int j => i == j
  | .str x, .str y => x == y
  | .tup xs, .tup ys => deqAll xs ys
  | .lst xs, .lst ys => deqAll xs ys
  | .lst xs, .klst ys => deqAll xs ys
  | .klst xs, .lst ys => deqAll xs ys
  | .klst xs, .klst ys => deqAll xs ys
  | _, _ => false
def deqAll : List D → List D → Bool
  | [], [] => true
  | x :: xs, y :: ys => deq x y && deqAll xs ys
  | _, _ => false
end
def okD (d : D) : Bool := SeqAt.shaped (toPy d)
mutual
theorem deq_py : ∀ x y : D, deq x y = PyData.eqv (toPy x) (toPy y)
  | .non, y => by cases y <;> simp [deq, toPy, PyData.eqv]
  | .bl a, y => by cases y <;> simp [deq, toPy, PyData.eqv]
  | .int a, y => by cases y <;> simp [deq, toPy, PyData.eqv]
  | .str a, y => by cases y <;> simp [deq, toPy, PyData.eqv]
  | .obj a, y => by cases y <;> simp [deq, toPy, PyData.eqv]
  | .ins c fs xs, y => by cases y <;> simp [deq, toPy, PyData.eqv]
  | .dct fs xs, y => by cases y <;> simp [deq, toPy, PyData.eqv]
  | .dkt fz fs xs, y => by cases y <;> simp [deq, toPy, PyData.eqv]
  | .xtp xs, y => by cases y <;> simp [deq, toPy, PyData.eqv]
  | .tup xs, y => by
    cases y <;> simp only [deq, toPy, PyData.eqv]
    exact deqAll_py xs _
  | .lst xs, y => by
    cases y <;> simp only [deq, toPy, PyData.eqv]
    all_goals exact deqAll_py xs _
  | .klst xs, y => by
    cases y <;> simp only [deq, toPy, PyData.eqv]
    all_goals exact deqAll_py xs _
theorem deqAll_py : ∀ xs ys : List D, deqAll xs ys = PyData.eqvAll (toPyAll xs) (toPyAll ys)
  | [], [] => by simp [deqAll, toPyAll, PyData.eqvAll]
  | [], _ :: _ => by simp [deqAll, toPyAll, PyData.eqvAll]
  | _ :: _, [] => by simp [deqAll, toPyAll, PyData.eqvAll]
  | x :: xs, y :: ys => by
    simp only [deqAll, toPyAll, PyData.eqvAll]
    rw [deq_py x y, deqAll_py xs ys]
end
section
variable {K : PySem.W.Frag} {φ : Nat → Option Addr} {H : Hp}
mutual
theorem Rp.dp : ∀ {d : D} {v : V}, Rp K φ H d v → (toPy d).canLay0 = true → Dp K H v (toPy d)
  | _, _, .non, _ => .non
  | _, _, .bl b, _ => .bl b
  | _, _, .int i, _ => .int i
  | _, _, .str x, _ => .str x
  | _, _, .tup s r, h => .tup s (RpAll.dp r (by simpa [toPy, PyData.canLay0] using h))
  | _, _, .lst s r, h => .lst (.inl (.inl s)) (RpAll.dp r (by simpa [toPy, PyData.canLay0] using h))
  | _, _, .klst s r, h => .lst s (RpAll.dp r (by simpa [toPy, PyData.canLay0] using h))
  | _, _, .obj i, h => by simp [toPy, PyData.canLay0] at h
  | _, _, .ins s l r, h => by simp [toPy, PyData.canLay0] at h
  | _, _, .dct s l r, h => by simp [toPy, PyData.canLay0] at h
  | _, _, .dkt .., h => by simp [toPy, PyData.canLay0] at h
  | _, _, .xtp .., h => by simp [toPy, PyData.canLay0] at h
theorem RpAll.dp : ∀ {ds : List D} {vs : List V}, RpAll K φ H ds vs → PyData.canLayAll0 (toPyAll ds) = true → DpAll K H vs (toPyAll ds)
  | _, _, .nil, _ => .nil
  | _, _, .cons r t, h => by
    have h' := h
    simp only [toPyAll, PyData.canLayAll0, Bool.and_eq_true] at h'
    exact .cons (r.dp h'.1) (RpAll.dp t h'.2)
end
theorem Rp.dp' {d : D} {v : V} (r : Rp K φ H d v) (h : okD d = true) : Dp K H v (toPy d) := r.dp (SeqAt.canLay_of_shaped h)
end

def sEq (x y : Str) : Bool := x.cps.toList == y.cps.toList
theorem sEq_eq (x y : Str) : sEq x y = decide (x = y) := by
  unfold sEq
  rw [Bool.eq_iff_iff]
  simp only [beq_iff_eq, decide_eq_true_eq]
  constructor
  · intro h
    cases x with | mk a => cases y with | mk b => exact congrArg _ (Array.ext' h)
  · rintro rfl; rfl
def scEq : D → D → Option Bool
  | .non, .non => some true | .non, .int _ => some false | .int _, .non => some false | .non, .bl _ => some false | .bl _, .non => some false | .non, .str _ => some false | .str _, .non => some false
  | .int i, .int j => some (i == j) | .bl a, .bl b => some (a == b) | .str a, .str b => some (sEq a b)
  | .int _, .str _ => some false | .str _, .int _ => some false | .bl _, .str _ => some false | .str _, .bl _ => some false
  | _, _ => none
def eqB (x y : D) : Option Bool := match scEq x y with | some b => some b | none => if okD x && okD y then some (deq x y) else none
def eqD (x y : D) : Option D := match eqB x y with | some b => some (.bl b) | none => none
def neD (x y : D) : Option D := match eqB x y with | some b => some (.bl (!b)) | none => none
def addD : D → D → Option D
  | .int i, .int j => some (.int (i + j))
  | .str a, .str b => if a.length + b.length ≤ sizeLine then some (.str (a ++ b)) else none
  | .tup xs, .tup ys => if xs.length + ys.length ≤ sizeLine then some (.tup (xs ++ ys)) else none
  | .lst xs, .lst ys => if xs.length + ys.length ≤ sizeLine then some (.lst (xs ++ ys)) else none
  | _, _ => none
def catD : D → D → Option D
  | .lst xs, .lst ys => if xs.length + ys.length ≤ sizeLine then some (.lst (xs ++ ys)) else none
  | _, _ => none
def subD : D → D → Option D | .int i, .int j => some (.int (i - j)) | _, _ => none
def mulD : D → D → Option D | .int i, .int j => if (-(2 ^ 64) < i ∧ i < 2 ^ 64) ∨ (-(2 ^ 64) < j ∧ j < 2 ^ 64) then some (.int (i * j)) else none | _, _ => none
def fdivD : D → D → Option D | .int i, .int j => if 0 < j ∧ j < 1073741824 then some (.int (i / j)) else none | _, _ => none
def modD : D → D → Option D | .int i, .int j => if 0 < j then some (.int (i % j)) else none | _, _ => none
def powD : D → D → Option D | .int i, .int j => if 0 ≤ j ∧ j ≤ 1000000 ∧ i.natAbs < 2 ^ 64 then some (.int (i ^ j.toNat)) else none | _, _ => none
def ltD : D → D → Option D | .int i, .int j => some (.bl (decide (i < j))) | _, _ => none
def leD : D → D → Option D | .int i, .int j => some (.bl (decide (i ≤ j))) | _, _ => none
def gtD : D → D → Option D | .int i, .int j => some (.bl (decide (j < i))) | _, _ => none
def geD : D → D → Option D | .int i, .int j => some (.bl (decide (j ≤ i))) | _, _ => none
def isB (x y : D) : Option Bool := match y with
  | .non => some (match x with | .non => true | _ => false)
  | .bl b => some (match x with | .bl c => c == b | _ => false)
  | _ => none
def isD (x y : D) : Option D := match isB x y with | some b => some (.bl b) | none => none
def isntD (x y : D) : Option D := match isB x y with | some b => some (.bl (!b)) | none => none
def flatD : D → Bool | .non => true | .bl _ => true | .int _ => true | .str _ => true | _ => false
def isLst : D → Bool | .lst _ => true | .klst _ => true | _ => false
def inB (x y : D) : Option Bool := match seqD y with
  | some xs => if flatD x && xs.all flatD then some (xs.any fun z => deq z x) else if isLst y && okD x && okD y then some (xs.any fun z => deq z x) else none
  | none => match x, y with
    | .str a, .str b => some (!(Builtin.Str.occurrences b a 0 b.length 1).isEmpty)
    | _, _ => none
def inD (x y : D) : Option D := match inB x y with | some b => some (.bl b) | none => none
def ninD (x y : D) : Option D := match inB x y with | some b => some (.bl (!b)) | none => none
def ixD (x y : D) : Option D := match y with
  | .int i => match x with
    | .lst xs => atI xs i | .klst xs => atI xs i | .tup xs => atI xs i
    | .str z => if z.length ≤ sizeLine then (match atI z.cps.toList i with | some c => some (.str ⟨#[c]⟩) | none => none) else none
    | _ => none
  | _ => none

section
variable {X : Cx}
def rBoolOp (p : Bool → Bool) (f : V → V → Option Bool) : R2 := fun x y H Q => ∃ b, f x y = some b ∧ Q (.bl (p b)) H
/-! int operations -/
theorem Rpb.int {K : PySem.W.Frag} {φ : Nat → Option Addr} {Hf H : Hp} {i : Int} {v : V} (r : Rpb K φ Hf H (.int i) v) : v = .int i := by
  rcases r with r | ⟨a, xs, vs, h1, _⟩
  · cases r; rfl
  · cases h1
theorem Rpb.str {K : PySem.W.Frag} {φ : Nat → Option Addr} {Hf H : Hp} {i : Str} {v : V} (r : Rpb K φ Hf H (.str i) v) : v = .str i := by
  rcases r with r | ⟨a, xs, vs, h1, _⟩
  · cases r; rfl
  · cases h1
theorem Rpb.tup {K : PySem.W.Frag} {φ : Nat → Option Addr} {Hf H : Hp} {xs : List D} {v : V} (r : Rpb K φ Hf H (.tup xs) v) : ∃ a vs, v = .ref a ∧ SqT K Hf a vs ∧ RpAll K φ Hf xs vs := by
  rcases r with r | ⟨a, xs, vs, h1, _⟩
  · cases r with | tup q r => exact ⟨_, _, rfl, q, r⟩
  · cases h1
theorem Rpb.lst {K : PySem.W.Frag} {φ : Nat → Option Addr} {Hf H : Hp} {xs : List D} {v : V} (s : Same Hf H) (r : Rpb K φ Hf H (.lst xs) v) : ∃ a vs, v = .ref a ∧ H a = some (.lst vs) ∧ RpAll K φ Hf xs vs := by
  rcases r with r | ⟨a, xs, vs, h1, h2, h3, h4⟩
  · cases r with | lst q r => exact ⟨_, _, rfl, s _ _ q, r⟩
  · cases h1; exact ⟨_, _, h2, h3, h4⟩
theorem Rpb.scal_v {K : PySem.W.Frag} {φ : Nat → Option Addr} {Hf H : Hp} {d : D} {v : V} (r : Rpb K φ Hf H d v) (h : scal d = true) : Rp K φ Hf d v := by
  rcases r with r | ⟨a, xs, vs, h1, h2, h3, h4⟩
  · exact r
  · subst h1; cases h
theorem o_sub {K} : Op2 K (rI0 fun i j => .int (i - j)) subD := fun φ Hf H x y d v u Q s r1 r2 e k => by
  unfold subD at e; split at e
  · cases e; exact ⟨_, _, r1.int, r2.int, k _ Hf H (.refl s) (.int _)⟩
  · cases e
theorem o_mul {K} : Op2 K (rI CMul fun i j => .int (i * j)) mulD := fun φ Hf H x y d v u Q s r1 r2 e k => by
  unfold mulD at e; split at e
  · split at e
    · rename_i c; cases e; exact ⟨_, _, r1.int, r2.int, c, k _ Hf H (.refl s) (.int _)⟩
    · cases e
  · cases e
theorem o_fdiv {K} : Op2 K (rI CDiv fun i j => .int (i / j)) fdivD := fun φ Hf H x y d v u Q s r1 r2 e k => by
  unfold fdivD at e; split at e
  · split at e
    · rename_i c; cases e; exact ⟨_, _, r1.int, r2.int, c, k _ Hf H (.refl s) (.int _)⟩
    · cases e
  · cases e
theorem o_mod {K} : Op2 K (rI (fun _ j => 0 < j) fun i j => .int (i % j)) modD := fun φ Hf H x y d v u Q s r1 r2 e k => by
  unfold modD at e; split at e
  · split at e
    · rename_i c; cases e; exact ⟨_, _, r1.int, r2.int, c, k _ Hf H (.refl s) (.int _)⟩
    · cases e
  · cases e
theorem o_pow {K} : Op2 K (rI CPow fun i j => .int (i ^ j.toNat)) powD := fun φ Hf H x y d v u Q s r1 r2 e k => by
  unfold powD at e; split at e
  · split at e
    · rename_i c; cases e; exact ⟨_, _, r1.int, r2.int, c, k _ Hf H (.refl s) (.int _)⟩
    · cases e
  · cases e
theorem o_lt {K} : Op2 K (rI0 fun i j => .bl (decide (i < j))) ltD := fun φ Hf H x y d v u Q s r1 r2 e k => by
  unfold ltD at e; split at e
  · cases e; exact ⟨_, _, r1.int, r2.int, k _ Hf H (.refl s) (.bl _)⟩
  · cases e
theorem o_gt {K} : Op2 K (rI0 fun i j => .bl (decide (j < i))) gtD := fun φ Hf H x y d v u Q s r1 r2 e k => by
  unfold gtD at e; split at e
  · cases e; exact ⟨_, _, r1.int, r2.int, k _ Hf H (.refl s) (.bl _)⟩
  · cases e
theorem o_ge {K} : Op2 K (rI0 fun i j => .bl (decide (j ≤ i))) geD := fun φ Hf H x y d v u Q s r1 r2 e k => by
  unfold geD at e; split at e
  · cases e; exact ⟨_, _, r1.int, r2.int, k _ Hf H (.refl s) (.bl _)⟩
  · cases e
/-! + -/
def rAddX (K : PySem.W.Frag) : R2 := fun x y H Q => (rI0 (fun i j => .int (i + j)) x y H Q ∨ (∃ i j, x = .str i ∧ y = .str j ∧ i.length + j.length ≤ sizeLine ∧ Q (.str (i ++ j)) H)) ∨ (rCat x y H Q ∨ rCatA K x y H Q)
theorem op_addX : OpR X (binaryOp .Add) (rAddX X.K) := OpR.or (OpR.or op_add op_add_str) (OpR.or op_cat op_catA)
theorem o_add {K} : Op2 K (rAddX K) addD := fun φ Hf H x y d v u Q s r1 r2 e k => by
  unfold addD at e; split at e
  · cases e; exact .inl (.inl ⟨_, _, r1.int, r2.int, k _ Hf H (.refl s) (.int _)⟩)
  · split at e
    · rename_i c; cases e; exact .inl (.inr ⟨_, _, r1.str, r2.str, c, k _ Hf H (.refl s) (.str _)⟩)
    · cases e
  · split at e
    · rename_i c; cases e
      obtain ⟨a, vs, e1, q1, w1⟩ := r1.tup
      obtain ⟨b, us, e2, q2, w2⟩ := r2.tup
      refine .inr (.inr ⟨a, b, vs, us, e1, e2, SqT_same s q1, SqT_same s q2, by rw [← w1.length, ← w2.length]; exact c, fun h => ?_, fun _ h => ?_, fun _ _ p hp => ?_⟩)
      · subst h; cases w1; exact k _ Hf H (.refl s) (.tup q2 w2)
      · subst h; cases w2; rw [List.append_nil] at k; exact k _ Hf H (.refl s) (.tup q1 w1)
      · have g : Gr Hf H _ _ := .new (o := .tup (vs ++ us)) s hp
        exact k _ _ _ g (.tup (.inl (.inl upd_same)) ((w1.append w2).mono g.f))
    · cases e
  · split at e
    · rename_i c; cases e
      obtain ⟨a, vs, e1, q1, w1⟩ := r1.lst s
      obtain ⟨b, us, e2, q2, w2⟩ := r2.lst s
      refine .inr (.inl ⟨a, b, vs, us, e1, e2, q1, q2, by rw [← w1.length, ← w2.length]; exact c, fun p hp => ?_⟩)
      have g : Gr Hf H _ _ := .new (o := .lst (vs ++ us)) s hp
      exact k _ _ _ g (.lst upd_same ((w1.append w2).mono g.f))
    · cases e
  · cases e
/-! ==, is, in -/
theorem scEq_v {K : PySem.W.Frag} {φ : Nat → Option Addr} {Hf H : Hp} {x y : D} {v u : V} {b : Bool} (r1 : Rpb K φ Hf H x v) (r2 : Rpb K φ Hf H y u) (h : scEq x y = some b) : L2.scal v u = true ∧ decide (v = u) = b := by
  have hx : scal x = true := by cases x <;> first | rfl | (cases y <;> cases h)
  have hy : scal y = true := by cases y <;> first | rfl | (cases x <;> cases h)
  have w1 := r1.scal_v hx
  have w2 := r2.scal_v hy
  cases w1 <;> first | (cases hx) | skip
  all_goals (cases w2 <;> first | (cases hy) | skip)
  all_goals (simp only [scEq, Option.some.injEq, reduceCtorEq] at h)
  all_goals (subst h; refine ⟨rfl, ?_⟩)
  all_goals first | rfl | (simp [sEq_eq]; done) | (rw [Bool.eq_iff_iff]; simp [sEq_eq])
def rEqX (K : PySem.W.Frag) : R2 := fun x y H Q => rEq x y H Q ∨ rEqD K x y H Q
def rNeX (K : PySem.W.Frag) : R2 := fun x y H Q => rNe x y H Q ∨ rNeD K x y H Q
theorem op_eqX (hu : X.A.units + 64 < cLine) : OpR X (compareOp .Eq) (rEqX X.K) := OpR.or op_eq (op_eqD hu)
theorem op_neX (hu : X.A.units + 64 < cLine) : OpR X (compareOp .NotEq) (rNeX X.K) := OpR.or op_ne (op_neD hu)
theorem o_eq {K} : Op2 K (rEqX K) eqD := fun φ Hf H x y d v u Q s r1 r2 e k => by
  unfold eqD eqB at e
  cases hs : scEq x y with
  | some b =>
    rw [hs] at e; cases e
    obtain ⟨h1, h2⟩ := scEq_v r1 r2 hs
    exact .inl ⟨h1, by rw [h2]; exact k _ Hf H (.refl s) (.bl _)⟩
  | none =>
    rw [hs] at e; simp only at e
    by_cases hc : (okD x && okD y) = true
    · rw [if_pos hc] at e; cases e
      have hc' : okD x = true ∧ okD y = true := by simpa using hc
      exact .inr ⟨toPy x, toPy y, (r1.all s).dp' hc'.1, (r2.all s).dp' hc'.2, hc'.1, hc'.2, by rw [← deq_py]; exact k _ Hf H (.refl s) (.bl _)⟩
    · rw [if_neg hc] at e; cases e
theorem o_ne {K} : Op2 K (rNeX K) neD := fun φ Hf H x y d v u Q s r1 r2 e k => by
  unfold neD eqB at e
  cases hs : scEq x y with
  | some b =>
    rw [hs] at e; cases e
    obtain ⟨h1, h2⟩ := scEq_v r1 r2 hs
    exact .inl ⟨h1, by rw [h2]; exact k _ Hf H (.refl s) (.bl _)⟩
  | none =>
    rw [hs] at e; simp only at e
    by_cases hc : (okD x && okD y) = true
    · rw [if_pos hc] at e; cases e
      have hc' : okD x = true ∧ okD y = true := by simpa using hc
      exact .inr ⟨toPy x, toPy y, (r1.all s).dp' hc'.1, (r2.all s).dp' hc'.2, hc'.1, hc'.2, by rw [← deq_py]; exact k _ Hf H (.refl s) (.bl _)⟩
    · rw [if_neg hc] at e; cases e
def isV (x y : V) : Option Bool := match y with
  | .non => some (decide (x = .non)) | .bl b => some (decide (x = .bl b)) | _ => none
theorem plain_of {x : V} {v : Value} (r : RelV x v) (b : Bool) : plainIs v (.bool b) = true := by
  cases x <;> first | (obtain ⟨t, rfl⟩ := r; rfl) | (cases r; rfl)
theorem bool_iff {x : V} {v : Value} (r : RelV x v) (b : Bool) : (v == Value.bool b) = decide (x = .bl b) := by
  rw [Bool.eq_iff_iff]
  simp only [beq_iff_eq, decide_eq_true_eq]
  cases x with
  | bl c =>
    cases r
    constructor
    · intro h; cases h; rfl
    · intro h; cases h; rfl
  | _ =>
    first
      | (obtain ⟨t, rfl⟩ := r; constructor <;> (intro h; cases h))
      | (cases r; constructor <;> (intro h; cases h))
theorem op_isX : OpR X (compareOp .Is) (rBoolOp id isV) := by
  intro pins s σ H x y v u Q I rx ry h
  obtain ⟨b, e, q⟩ := h
  cases y with
  | non =>
    simp only [isV, Option.some.injEq] at e
    subst e
    exact op_isN pins s σ H x _ v u Q I rx ry ⟨rfl, q⟩
  | bl c =>
    simp only [isV, Option.some.injEq] at e
    subst e
    cases (show u = Value.bool c from ry)
    refine wpAny_is_plain (plain_of rx c) ⟨.bl (decide (x = .bl c)), H, I, ?_, q⟩
    rw [bool_iff rx c]; rfl
  | _ => simp [isV] at e
theorem op_isntX : OpR X (compareOp .IsNot) (rBoolOp not isV) := by
  intro pins s σ H x y v u Q I rx ry h
  obtain ⟨b, e, q⟩ := h
  cases y with
  | non =>
    simp only [isV, Option.some.injEq] at e
    subst e
    exact op_notN pins s σ H x _ v u Q I rx ry ⟨rfl, q⟩
  | bl c =>
    simp only [isV, Option.some.injEq] at e
    subst e
    cases (show u = Value.bool c from ry)
    refine wpAny_isNot_plain (plain_of rx c) ⟨.bl (!decide (x = .bl c)), H, I, ?_, q⟩
    rw [bool_iff rx c]; rfl
  | _ => simp [isV] at e
theorem isB_v {K : PySem.W.Frag} {φ : Nat → Option Addr} {Hf H : Hp} {x y : D} {v u : V} {b : Bool} (r1 : Rpb K φ Hf H x v) (r2 : Rpb K φ Hf H y u) (h : isB x y = some b) : isV v u = some b := by
  unfold isB at h
  split at h
  · cases h
    cases r2.scal_v rfl
    rcases r1 with r1 | ⟨a, xs, vs, h1, h2, h3, h4⟩
    · cases r1 <;> rfl
    · subst h1 h2; rfl
  · rename_i c
    cases h
    cases r2.scal_v rfl
    rcases r1 with r1 | ⟨a, xs, vs, h1, h2, h3, h4⟩
    · cases r1 <;> simp [isV]
      rw [Bool.eq_iff_iff]; simp
    · subst h1 h2; rfl
  · cases h
theorem o_is {K} : Op2 K (rBoolOp id isV) isD := fun φ Hf H x y d v u Q s r1 r2 e k => by
  unfold isD at e; split at e
  · rename_i b hb; cases e; exact ⟨b, isB_v r1 r2 hb, k _ Hf H (.refl s) (.bl _)⟩
  · cases e
theorem o_isnt {K} : Op2 K (rBoolOp not isV) isntD := fun φ Hf H x y d v u Q s r1 r2 e k => by
  unfold isntD at e; split at e
  · rename_i b hb; cases e; exact ⟨b, isB_v r1 r2 hb, k _ Hf H (.refl s) (.bl _)⟩
  · cases e
theorem flat_v {K : PySem.W.Frag} {φ : Nat → Option Addr} {H : Hp} {x : D} {v : V} (r : Rp K φ H x v) (h : flatD x = true) : flatV v = true := by
  cases r <;> first | rfl | (cases h)
theorem flat_all {K : PySem.W.Frag} {φ : Nat → Option Addr} {H : Hp} : ∀ {xs : List D} {vs : List V}, RpAll K φ H xs vs → xs.all flatD = true → vs.all flatV = true
  | _, _, .nil, _ => rfl
  | _, _, .cons r t, h => by
    simp only [List.all_cons, Bool.and_eq_true] at h ⊢
    exact ⟨flat_v r h.1, flat_all t h.2⟩
theorem eqV_deq {K : PySem.W.Frag} {φ : Nat → Option Addr} {H H2 : Hp} {x y : D} {v u : V} (r : Rp K φ H x v) (q : Rp K φ H2 y u) (hx : flatD x = true) (hy : flatD y = true) : eqV v u = deq x y := by
  cases r <;> first | (cases hx) | skip
  all_goals (cases q <;> first | (cases hy) | skip)
  all_goals first | rfl | (simp [eqV, deq])
theorem inV_any {K : PySem.W.Frag} {φ : Nat → Option Addr} {H H2 : Hp} {x : D} {v : V} (r : Rp K φ H2 x v) (hx : flatD x = true) : ∀ {xs : List D} {vs : List V}, RpAll K φ H xs vs → xs.all flatD = true → inV v vs = xs.any fun z => deq z x
  | _, _, .nil, _ => rfl
  | _, _, .cons q t, h => by
    simp only [List.all_cons, Bool.and_eq_true] at h
    have ih := inV_any r hx t h.2
    unfold inV at ih ⊢
    rw [List.any_cons, List.any_cons, ih, eqV_deq q r h.1 hx]
def rInX (K : PySem.W.Frag) : R2 := fun x y H Q => (rIn K false x y H Q ∨ rInD K x y H Q) ∨ (∃ i j, x = .str i ∧ y = .str j ∧ Q (.bl (!(Builtin.Str.occurrences j i 0 j.length 1).isEmpty)) H)
def rNinX (K : PySem.W.Frag) : R2 := fun x y H Q => (rIn K true x y H Q ∨ rNotInD K x y H Q) ∨ (∃ i j, x = .str i ∧ y = .str j ∧ Q (.bl (!(!(Builtin.Str.occurrences j i 0 j.length 1).isEmpty))) H)
theorem op_inX (hu : X.A.units + 65 < cLine) : OpR X (compareOp .In) (rInX X.K) := OpR.or (OpR.or op_in_seq (op_inD hu)) op_in_str
theorem op_ninX (hu : X.A.units + 65 < cLine) : OpR X (compareOp .NotIn) (rNinX X.K) := OpR.or (OpR.or op_notIn_seq (op_notInD hu)) op_notIn_str
theorem any_py {d : D} : ∀ xs : List D, (toPyAll xs).any (fun z => PyData.eqv z (toPy d)) = xs.any fun z => deq z d
  | [] => rfl
  | x :: xs => by
    show (toPy x :: toPyAll xs).any _ = _
    rw [List.any_cons, List.any_cons, any_py xs, deq_py]
theorem toPy_lst {y : D} {xs : List D} (h : seqD y = some xs) (hl : isLst y = true) : toPy y = .list (toPyAll xs) := by
  cases y with
  | lst ys => simp only [seqD, Option.some.injEq] at h; subst h; simp [toPy]
  | klst ys => simp only [seqD, Option.some.injEq] at h; subst h; simp [toPy]
  | _ => cases hl
theorem o_in {K} : Op2 K (rInX K) inD := fun φ Hf H x y d v u Q s r1 r2 e k => by
  unfold inD at e; split at e
  · rename_i b hb; cases e
    unfold inB at hb
    split at hb
    · rename_i xs hx
      split at hb
      · rename_i hc
        cases hb
        have hc' : flatD x = true ∧ xs.all flatD = true := by simpa [List.all_eq_true] using hc
        obtain ⟨p, vs, e1, e2, e3⟩ := r2.seq s hx
        have w1 := r1.scal_v (by cases x <;> first | rfl | (cases hc'.1))
        exact .inl (.inl ⟨p, vs, e1, e2, flat_v w1 hc'.1, flat_all e3 hc'.2, by
          show Q (.bl (if false = true then _ else inV v vs)) H
          rw [if_neg Bool.false_ne_true, inV_any w1 hc'.1 e3 hc'.2]; exact k _ Hf H (.refl s) (.bl _)⟩)
      · split at hb
        · rename_i hc
          cases hb
          have hc' : (isLst y = true ∧ okD x = true) ∧ okD y = true := by simpa using hc
          have e4 := toPy_lst hx hc'.1.1
          have h5 : okD y = true := hc'.2
          refine .inl (.inr ⟨toPy x, toPyAll xs, (r1.all s).dp' hc'.1.2, by rw [← e4]; exact (r2.all s).dp' h5, hc'.1.2, by rw [← e4]; exact h5, ?_⟩)
          rw [any_py]; exact k _ Hf H (.refl s) (.bl _)
        · cases hb
    · split at hb
      · cases hb
        exact .inr ⟨_, _, r1.str, r2.str, k _ Hf H (.refl s) (.bl _)⟩
      · cases hb
  · cases e
theorem o_nin {K} : Op2 K (rNinX K) ninD := fun φ Hf H x y d v u Q s r1 r2 e k => by
  unfold ninD at e; split at e
  · rename_i b hb; cases e
    unfold inB at hb
    split at hb
    · rename_i xs hx
      split at hb
      · rename_i hc
        cases hb
        have hc' : flatD x = true ∧ xs.all flatD = true := by simpa [List.all_eq_true] using hc
        obtain ⟨p, vs, e1, e2, e3⟩ := r2.seq s hx
        have w1 := r1.scal_v (by cases x <;> first | rfl | (cases hc'.1))
        exact .inl (.inl ⟨p, vs, e1, e2, flat_v w1 hc'.1, flat_all e3 hc'.2, by
          show Q (.bl (if true = true then !inV v vs else _)) H
          rw [if_pos rfl, inV_any w1 hc'.1 e3 hc'.2]; exact k _ Hf H (.refl s) (.bl _)⟩)
      · split at hb
        · rename_i hc
          cases hb
          have hc' : (isLst y = true ∧ okD x = true) ∧ okD y = true := by simpa using hc
          have e4 := toPy_lst hx hc'.1.1
          have h5 : okD y = true := hc'.2
          refine .inl (.inr ⟨toPy x, toPyAll xs, (r1.all s).dp' hc'.1.2, by rw [← e4]; exact (r2.all s).dp' h5, hc'.1.2, by rw [← e4]; exact h5, ?_⟩)
          rw [any_py]; exact k _ Hf H (.refl s) (.bl _)
        · cases hb
    · split at hb
      · cases hb
        exact .inr ⟨_, _, r1.str, r2.str, k _ Hf H (.refl s) (.bl _)⟩
      · cases hb
  · cases e
/-! items -/
theorem atI_rp {K : PySem.W.Frag} {φ : Nat → Option Addr} {H : Hp} {xs : List D} {vs : List V} {i : Int} {d : D} (r : RpAll K φ H xs vs) (h : atI xs i = some d) : ∃ v, atI vs i = some v ∧ Rp K φ H d v := by
  unfold atI at h ⊢
  rw [r.length] at h
  cases q : ixN vs.length i with
  | none => rw [q] at h; cases h
  | some j =>
    rw [q] at h
    exact r.get h
theorem o_ix {K} : Op2 K (rIx K) ixD := fun φ Hf H x y d v u Q s r1 r2 e k => by
  unfold ixD at e; split at e
  · rename_i i
    have hu := r2.int
    subst hu
    split at e
    · obtain ⟨a, vs, e1, q1, w1⟩ := r1.lst s
      obtain ⟨z, h1, h2⟩ := atI_rp w1 e
      exact .inl ⟨a, vs, i, z, e1, rfl, .inl (.inl q1), h1, k z Hf H (.refl s) h2⟩
    · rename_i xs
      obtain ⟨p, vs, e1, e2, e3⟩ := r1.seq s (xs := xs) rfl
      obtain ⟨z, h1, h2⟩ := atI_rp e3 e
      rcases e2 with e2 | e2
      · exact .inl ⟨p, vs, i, z, e1, rfl, e2, h1, k z Hf H (.refl s) h2⟩
      · exact .inr (.inl ⟨p, vs, i, z, e1, rfl, e2, h1, k z Hf H (.refl s) h2⟩)
    · obtain ⟨a, vs, e1, q1, w1⟩ := r1.tup
      obtain ⟨z, h1, h2⟩ := atI_rp w1 e
      exact .inr (.inl ⟨a, vs, i, z, e1, rfl, SqT_same s q1, h1, k z Hf H (.refl s) h2⟩)
    · have hv := r1.str
      subst hv
      split at e
      · rename_i hl
        split at e
        · rename_i c hc
          cases e
          exact .inr (.inr ⟨_, i, c, rfl, rfl, hl, hc, k _ Hf H (.refl s) (.str _)⟩)
        · cases e
      · cases e
    · cases e
  · cases e
end
end FL
namespace FL
variable [HW]
open PySem L2

/-! ### slices -/
def FO (X : Cx) (O : List Nat) (e : Option Expr) (F : Env → Option (Option Int)) : Prop :=
  ∃ t : TO, PO X e t ∧ ∀ (φ : Nat → Option Addr) (Hf0 H0 : Hp) (ρ : Env) (σ : St) (Hf H : Hp) (o : Option Int) (Q : Option Int → Hp → Prop), SR X.K φ Hf0 H0 O ρ σ Hf H → F ρ = some o → (∀ Hf' H', Gr Hf H Hf' H' → Q o H') → t σ H Q
def pNo : Env → Option (Option Int) := fun _ => some none
def pYes (F : Env → Option D) : Env → Option (Option Int) := fun ρ => match F ρ with | some (.int i) => some (some i) | _ => none
def cutL (xs : List D) (lo hi : Option Int) : List D := (xs.drop (HT.sIx xs.length 0 lo)).take (HT.sIx xs.length xs.length hi - HT.sIx xs.length 0 lo)
def slD (x : D) (lo hi : Option Int) : Option D := match x with
  | .lst xs => some (.lst (cutL xs lo hi)) | .klst xs => some (.lst (cutL xs lo hi)) | .tup xs => some (.tup (cutL xs lo hi))
  | .str z => if z.length ≤ sizeLine then some (.str (cutS z lo hi)) else none | _ => none
def slN (x : D) (lo hi : Option Int) : Option D := match x with
  | .lst xs => some (.lst (cutL xs lo hi)) | .klst xs => some (.lst (cutL xs lo hi)) | _ => none
def eSl (f : D → Option Int → Option Int → Option D) (F : Env → Option D) (L U : Env → Option (Option Int)) : Env → Option D := fun ρ =>
  match F ρ with | some x => (match L ρ with | some l => (match U ρ with | some u => f x l u | none => none) | none => none) | none => none
section
variable {X : Cx} {O : List Nat} {e : Expr} {F : Env → Option D} {p2 pos : Pos} {lo hi : Option Expr} {L U : Env → Option (Option Int)}
theorem fo_no : FO X O none pNo := ⟨_, po_none, fun φ Hf0 H0 ρ σ Hf H o Q S h k => by cases h; exact k Hf H (.refl S.sub)⟩
theorem fo_yes (h : FE X O e F) : FO X O (some e) (pYes F) := ⟨_, po_some peW, fun φ Hf0 H0 ρ σ Hf H o Q S hF k => by
  unfold pYes at hF
  split at hF
  · rename_i i hi
    cases hF
    refine h φ Hf0 H0 ρ σ Hf H _ _ S hi fun v Hf1 H1 g r => ?_
    cases r
    exact ⟨i, rfl, k Hf1 H1 g⟩
  · cases hF⟩
theorem eSl_some {f : D → Option Int → Option Int → Option D} {ρ : Env} {d : D} (h : eSl f F L U ρ = some d) : ∃ x l u, F ρ = some x ∧ L ρ = some l ∧ U ρ = some u ∧ f x l u = some d := by
  unfold eSl at h
  cases h1 : F ρ with
  | none => rw [h1] at h; cases h
  | some x =>
    simp only [h1] at h
    cases h2 : L ρ with
    | none => simp only [h2] at h; cases h
    | some l =>
      simp only [h2] at h
      cases h3 : U ρ with
      | none => simp only [h3] at h; cases h
      | some u => simp only [h3] at h; exact ⟨x, l, u, rfl, rfl, rfl, h⟩
theorem cut_rp {K : PySem.W.Frag} {φ : Nat → Option Addr} {H : Hp} {xs : List D} {vs : List V} (r : RpAll K φ H xs vs) (lo hi : Option Int) : RpAll K φ H (cutL xs lo hi) (cutV vs lo hi) := by
  unfold cutL cutV
  rw [r.length]
  exact (r.drop _).take _
def rSlX (K : PySem.W.Frag) : V → Option Int → Option Int → Hp → VK → Prop := fun x lo hi H Q => (rSlL K x lo hi H Q ∨ rSlA K x lo hi H Q) ∨ rSlS x lo hi H Q
theorem sl_X : SlR X (rSlX X.K) := SlR.or (SlR.or sl_list sl_tupA) sl_str
theorem fe_sl (h : FB X O e F) (hl : FO X O lo L) (hu : FO X O hi U) : FE X O (.Subscript e (.Slice lo hi none p2) pos) (eSl slD F L U) := by
  obtain ⟨tl, pl, kl⟩ := hl
  obtain ⟨tu, pu, ku⟩ := hu
  intro φ Hf0 H0 ρ σ Hf H d Q S hF k
  obtain ⟨x, l, u, h1, h2, h3, h4⟩ := eSl_some hF
  refine toE (pe_slice sl_X peW pl pu) ?_
  refine h φ Hf0 H0 ρ σ Hf H x _ S h1 fun v Hf1 H1 g1 r1 => ?_
  refine kl φ Hf0 H0 ρ σ Hf1 H1 l _ (S.gr g1) h2 fun Hf2 H2 g2 => ?_
  refine ku φ Hf0 H0 ρ σ Hf2 H2 u _ ((S.gr g1).gr g2) h3 fun Hf3 H3 g3 => ?_
  have g := g1.trans (g2.trans g3)
  have r := r1.gr (g2.trans g3)
  unfold slD at h4
  split at h4
  · rename_i xs
    cases h4
    obtain ⟨p, vs, e1, e2, e3⟩ := r.lst g3.s
    refine .inl (.inl ⟨p, vs, e1, .inl (.inl e2), fun q hq => ?_⟩)
    have gn : Gr Hf3 H3 _ _ := .new (o := .lst (cutV vs l u)) g3.s hq
    exact k _ _ _ (g.trans gn) (.lst upd_same ((cut_rp e3 l u).mono gn.f))
  · rename_i xs
    cases h4
    rcases r with r | ⟨_, _, _, h, _⟩
    · cases r with
      | klst q r =>
        rename_i vs
        refine .inl (.inl ⟨_, vs, rfl, g3.s.seq q, fun q hq => ?_⟩)
        have gn : Gr Hf3 H3 _ _ := .new (o := .lst (cutV vs l u)) g3.s hq
        exact k _ _ _ (g.trans gn) (.lst upd_same ((cut_rp r l u).mono gn.f))
    · cases h
  · rename_i xs
    cases h4
    obtain ⟨p, vs, e1, e2, e3⟩ := r.tup
    refine .inl (.inr ⟨p, vs, e1, SqT_same g3.s e2, fun hw => ?_, fun _ q hq => ?_⟩)
    · have e4 : cutL xs l u = xs := by
        unfold cutL
        rw [e3.length, hw.1, hw.2]
        rw [List.drop_zero, ← e3.length]
        simp
      rw [e4] at k
      exact k _ _ _ g (e1 ▸ .tup e2 e3)
    · have gn : Gr Hf3 H3 _ _ := .new (o := .tup (cutV vs l u)) g3.s hq
      exact k _ _ _ (g.trans gn) (.tup (.inl (.inl upd_same)) ((cut_rp e3 l u).mono gn.f))
  · split at h4
    · rename_i hz
      cases h4
      have := r.str
      subst this
      exact .inr ⟨_, rfl, hz, k _ _ _ g (.str _)⟩
    · cases h4
  · cases h4
def revD (x : D) : Option D := match x with | .lst xs => some (.lst xs.reverse) | .klst xs => some (.lst xs.reverse) | _ => none
end

end FL
namespace FL
variable [HW]
open PySem L2

/-! ### built-in calls by values -/
section
variable {X : Cx} {O : List Nat} {e : Expr} {es : List Expr} {x : Str} {p pos : Pos} {F : Env → Option D} {Fs : Env → Option (List D)} {bid T : String} {r : List V → Hp → VK → Prop} {f : List D → Option D}
theorem CallR.or {v : Value} {r' : List V → Hp → VK → Prop} (h : CallR X v r) (h' : CallR X v r') : CallR X v (fun xs H Q => r xs H Q ∨ r' xs H Q) := fun pins s σ H xs us Q I rl q => q.elim (h pins s σ H xs us Q I rl) (h' pins s σ H xs us Q I rl)
theorem fe_callB (hc : CallR X (.builtin bid) r) (hr : OpL X.K r f) (hg : Gl X x) (hm : X.mg x = none) (hv : bootBuiltins x = some (.builtin bid)) (ha : FBA X O (e :: es) Fs) (hn : x ≠ "__name__" := by decide +kernel) (hdb : (x == ("__debug__" : Str)) = false := by decide +kernel)
    (he : starEach (e :: es) X.env = (false, eval e X.env) :: starEach es X.env := by rfl) (hpl : (backTo pos (starEach es X.env)).any (·.1) = false := by rfl) : FE X O (.Call (.Name x p) (e :: es) [] pos) (eL f Fs) := by
  intro φ Hf0 H0 ρ σ Hf H d Q S hF k
  obtain ⟨xs, h1, h2⟩ := eL_some hF
  refine toE (pe_callB hc hg hm hv paW hn hdb he hpl) ?_
  exact ha φ Hf0 H0 ρ σ Hf H xs _ S h1 fun vs Hf1 H1 g1 r1 => hr φ Hf1 H1 xs d vs Q g1.s r1 h2 fun z Hf2 H2 g2 r2 => k z Hf2 H2 (g1.trans g2) r2
theorem fe_callTy (hc : CallR X (.type T) r) (hr : OpL X.K r f) (hg : Gl X x) (hm : X.mg x = none) (hv : bootBuiltins x = some (.type T)) (ha : FBA X O (e :: es) Fs) (hn : x ≠ "__name__" := by decide +kernel) (hdb : (x == ("__debug__" : Str)) = false := by decide +kernel)
    (he : starEach (e :: es) X.env = (false, eval e X.env) :: starEach es X.env := by rfl) (hpl : (backTo pos (starEach es X.env)).any (·.1) = false := by rfl) : FE X O (.Call (.Name x p) (e :: es) [] pos) (eL f Fs) := by
  intro φ Hf0 H0 ρ σ Hf H d Q S hF k
  obtain ⟨xs, h1, h2⟩ := eL_some hF
  refine toE (pe_callTy hc hg hm hv paW hn hdb he hpl) ?_
  exact ha φ Hf0 H0 ρ σ Hf H xs _ S h1 fun vs Hf1 H1 g1 r1 => hr φ Hf1 H1 xs d vs Q g1.s r1 h2 fun z Hf2 H2 g2 r2 => k z Hf2 H2 (g1.trans g2) r2
theorem fn_callTy (hc : CallR X (.type T) r) (hr : OpLN X.K r f) (hg : Gl X x) (hm : X.mg x = none) (hv : bootBuiltins x = some (.type T)) (ha : FBA X O (e :: es) Fs) (hn : x ≠ "__name__" := by decide +kernel) (hdb : (x == ("__debug__" : Str)) = false := by decide +kernel)
    (he : starEach (e :: es) X.env = (false, eval e X.env) :: starEach es X.env := by rfl) (hpl : (backTo pos (starEach es X.env)).any (·.1) = false := by rfl) : FN X O (.Call (.Name x p) (e :: es) [] pos) (eL f Fs) := by
  intro φ Hf0 H0 ρ σ Hf H d Q S hF k
  obtain ⟨xs, h1, h2⟩ := eL_some hF
  refine toE (pe_callTy hc hg hm hv paW hn hdb he hpl) ?_
  exact ha φ Hf0 H0 ρ σ Hf H xs _ S h1 fun vs Hf1 H1 g1 r1 => hr φ Hf1 H1 xs d vs Q g1.s r1 h2 fun a ys us H2 hd g2 q1 q2 r2 => k a ys us Hf1 H2 hd (g1.trans g2) (g1.h.free q1) (g1.s.free q1) q2 r2

/-! len, int, tuple, list, ord, any, all -/
def lenD : List D → Option D := fun xs => match xs with
  | [x] => (match seqD x with | some ys => some (.int ys.length) | none => (match x with | .str z => if z.length ≤ sizeLine then some (.int z.length) else none | _ => none))
  | _ => none
def intD : List D → Option D := fun xs => match xs with | [.int i] => some (.int i) | [.bl b] => some (.int (if b then 1 else 0)) | _ => none
def tupOf : List D → Option D := fun xs => match xs with | [x] => (match seqD x with | some ys => some (.tup ys) | none => none) | _ => none
def listOf : List D → Option D := fun xs => match xs with | [x] => (match seqD x with | some ys => some (.lst ys) | none => none) | _ => none
def ordD : List D → Option D := fun xs => match xs with | [.str x] => if x.length = 1 then some (.int (x.cps.getD 0 0 : Nat)) else none | _ => none
def allBl : List D → Option (List Bool)
  | [] => some [] | .bl b :: ds => (match allBl ds with | some bs => some (b :: bs) | none => none) | _ :: _ => none
def anyD : List D → Option D := fun xs => match xs with | [x] => if isLst x then (match seqD x with | some ys => (match allBl ys with | some bs => some (.bl (bs.any id)) | none => none) | none => none) else none | _ => none
def allD : List D → Option D := fun xs => match xs with | [x] => if isLst x then (match seqD x with | some ys => (match allBl ys with | some bs => some (.bl (bs.all id)) | none => none) | none => none) else none | _ => none
theorem RpbAll.one {K : PySem.W.Frag} {φ : Nat → Option Addr} {Hf H : Hp} {d : D} {vs : List V} (r : RpbAll K φ Hf H [d] vs) : ∃ v, vs = [v] ∧ Rpb K φ Hf H d v := by
  cases r with | cons r t => cases t; exact ⟨_, rfl, r⟩
theorem c_len : CallR X (.builtin "len") (fun xs H Q => (∃ p ys, xs = [.ref p] ∧ (SqL X.K H p ys ∨ SqT X.K H p ys) ∧ Q (.int ys.length) H) ∨ (∃ z, xs = [.str z] ∧ z.length ≤ sizeLine ∧ Q (.int z.length) H)) := CallR.or call_len_seq call_len_str
theorem l_len {K} : OpL K (fun xs H Q => (∃ p ys, xs = [.ref p] ∧ (SqL K H p ys ∨ SqT K H p ys) ∧ Q (.int ys.length) H) ∨ (∃ z, xs = [.str z] ∧ z.length ≤ sizeLine ∧ Q (.int z.length) H)) lenD := fun φ Hf H xs d vs Q s r e k => by
  unfold lenD at e
  split at e
  · obtain ⟨v, hv, rr⟩ := r.one; subst hv; clear r; have r := rr; clear rr
    split at e
    · rename_i ys hy
      cases e
      obtain ⟨p, ws, e1, e2, e3⟩ := r.seq s hy
      exact .inl ⟨p, ws, by rw [e1], e2, by rw [← e3.length]; exact k _ Hf H (.refl s) (.int _)⟩
    · split at e
      · split at e
        · rename_i hz; cases e
          have := r.str; subst this
          exact .inr ⟨_, rfl, hz, k _ Hf H (.refl s) (.int _)⟩
        · cases e
      · cases e
  · cases e
theorem l_int {K} : OpL K (fun xs H Q => (∃ i, xs = [.int i] ∧ Q (.int i) H) ∨ ∃ k, xs = [.bl k] ∧ Q (.int (if k then 1 else 0)) H) intD := fun φ Hf H xs d vs Q s r e k => by
  unfold intD at e
  split at e
  · cases e
    obtain ⟨v, hv, rr⟩ := r.one; subst hv; clear r; have r := rr; clear rr
    have := r.int; subst this
    exact .inl ⟨_, rfl, k _ Hf H (.refl s) (.int _)⟩
  · cases e
    obtain ⟨v, hv, rr⟩ := r.one; subst hv; clear r; have r := rr; clear rr
    cases r.scal_v rfl
    exact .inr ⟨_, rfl, k _ Hf H (.refl s) (.int _)⟩
  · cases e
theorem l_tup {K} : OpL K (fun xs H Q => ∃ p ys, xs = [.ref p] ∧ ((SqL K H p ys ∧ ∀ l, H l = none → Q (.ref l) (upd H l (.tup ys))) ∨ (SqT K H p ys ∧ Q (.ref p) H))) tupOf := fun φ Hf H xs d vs Q s r e k => by
  unfold tupOf at e
  split at e
  · rename_i x
    obtain ⟨v, hv, rr⟩ := r.one; subst hv; clear r; have r := rr; clear rr
    split at e
    · rename_i ys hy
      cases e
      have fin : ∀ p ws, v = .ref p → SqL K H p ws → RpAll K φ Hf ys ws → ∃ p ys, [v] = [V.ref p] ∧ ((SqL K H p ys ∧ ∀ l, H l = none → Q (.ref l) (upd H l (.tup ys))) ∨ (SqT K H p ys ∧ Q (.ref p) H)) := fun p ws e1 e2 e3 => by
        subst e1
        refine ⟨p, ws, rfl, .inl ⟨e2, fun l hl => ?_⟩⟩
        have gn : Gr Hf H _ _ := .new (o := .tup ws) s hl
        exact k _ _ _ gn (.tup (.inl (.inl upd_same)) (e3.mono gn.f))
      cases x with
      | tup zs =>
        cases hy
        obtain ⟨a, ws, e1, e2, e3⟩ := r.tup
        subst e1
        exact ⟨a, ws, rfl, .inr ⟨SqT_same s e2, k _ Hf H (.refl s) (.tup e2 e3)⟩⟩
      | lst zs =>
        cases hy
        obtain ⟨a, ws, e1, e2, e3⟩ := r.lst s
        exact fin a ws e1 (.inl (.inl e2)) e3
      | klst zs =>
        cases hy
        rcases r with r | ⟨_, _, _, h, _⟩
        · cases r with | klst q r => exact fin _ _ rfl (s.seq q) r
        · cases h
      | _ => cases hy
    · cases e
  · cases e
theorem l_list {K} : OpLN K (fun xs H Q => ∃ p ys, xs = [.ref p] ∧ (SqL K H p ys ∨ SqT K H p ys) ∧ ∀ l, H l = none → Q (.ref l) (upd H l (.lst ys))) listOf := fun φ Hf H xs d vs Q s r e k => by
  unfold listOf at e
  split at e
  · obtain ⟨v, hv, rr⟩ := r.one; subst hv; clear r; have r := rr; clear rr
    split at e
    · rename_i ys hy
      cases e
      obtain ⟨p, ws, e1, e2, e3⟩ := r.seq s hy
      refine ⟨p, ws, by rw [e1], e2, fun l hl => ?_⟩
      exact k l _ _ _ rfl (.own s hl) hl upd_same e3
    · cases e
  · cases e
theorem isLst_sq {K : PySem.W.Frag} {φ : Nat → Option Addr} {Hf H : Hp} {x : D} {v : V} {ys : List D} (s : Same Hf H) (r : Rpb K φ Hf H x v) (hl : isLst x = true) (hy : seqD x = some ys) : ∃ p ws, v = .ref p ∧ SqL K H p ws ∧ RpAll K φ Hf ys ws := by
  cases x <;> first | (cases hl) | skip
  · cases hy
    obtain ⟨p, vs, e1, e2, e3⟩ := r.lst s
    exact ⟨p, vs, e1, .inl (.inl e2), e3⟩
  · cases hy
    rcases r with r | ⟨_, _, _, h, _⟩
    · cases r with | klst q r => exact ⟨_, _, rfl, s.seq q, r⟩
    · cases h
end
end FL
namespace FL
variable [HW]
open PySem L2

/-! ### built-in calls by values -/
section
variable {X : Cx} {O : List Nat} {e : Expr} {es : List Expr} {x : Str} {p pos : Pos} {F : Env → Option D} {Fs : Env → Option (List D)} {bid T : String} {r : List V → Hp → VK → Prop} {f : List D → Option D}
/-! isinstance(x, T) -/
def tyD : D → Option String | .non => some "NoneType" | .bl _ => some "bool" | .int _ => some "int" | .str _ => some "str" | .tup _ => some "tuple" | .lst _ => some "list" | .klst _ => some "list" | .obj _ => none | .ins _ _ _ => none | .dct _ _ => none | .dkt _ _ _ => none | .xtp _ => none
def isi (T : String) (t : String) : Bool := t == T || (t == "bool" && T == "int")
def isiD (T : String) (d : D) : Option D := match tyD d with | some t => some (.bl (isi T t)) | none => none
theorem isi_tab : (["tuple", "list", "bool", "int", "str"].all fun T => ["NoneType", "bool", "int", "str", "tuple", "list"].all fun t => kitB t T == some (isi T t)) = true := by decide +kernel
theorem kit_isi {K : PySem.W.Frag} {T t : String} {d : D} (hT : T ∈ ["tuple", "list", "bool", "int", "str"]) (h : tyD d = some t) : PySem.W.kitOne K (.type t) (.type T) = some (isi T t) := by
  have h2 : t ∈ ["NoneType", "bool", "int", "str", "tuple", "list"] := by
    cases d <;> first | (cases h; decide) | cases h
  exact kit_ty (by simpa using (List.all_eq_true.mp ((List.all_eq_true.mp isi_tab) T hT)) t h2)
theorem tyX_of {K : PySem.W.Frag} {φ : Nat → Option Addr} {H : Hp} {d : D} {v : V} {t : String} (r : Rp K φ H d v) (h : tyD d = some t) : TyX K H v (.type t) := by
  cases r <;> first | (cases h) | skip
  · exact .base .non
  · exact .base (.bl _)
  · exact .base (.int _)
  · exact .base (.str _)
  · rename_i q _
    rcases q with (q | ⟨o, q⟩) | ⟨o, its, n, q, hc, _⟩
    · exact .base (.tup q)
    · exact .fTuple q
    · exact .kTuple q hc
  · rename_i q _
    exact .base (.lst q)
  · rename_i q _
    rcases q with (q | ⟨o, q⟩) | ⟨o, its, n, q, hc, _⟩
    · exact .base (.lst q)
    · exact .base (.frz q)
    · exact .kList q hc
theorem fe_isi {y : Str} {py : Pos} (hT : T ∈ ["tuple", "list", "bool", "int", "str"]) (hg : Gl X x) (hm : X.mg x = none) (hv : bootBuiltins x = some (.builtin "isinstance")) (hg2 : Gl X y) (hm2 : X.mg y = none) (hv2 : bootBuiltins y = some (.type T)) (h : FB X O e F)
    (hn : x ≠ "__name__" := by decide +kernel) (hdb : (x == ("__debug__" : Str)) = false := by decide +kernel) (hn2 : y ≠ "__name__" := by decide +kernel) (hdb2 : (y == ("__debug__" : Str)) = false := by decide +kernel)
    (hs : starEach [e, .Name y py] X.env = (false, eval e X.env) :: starEach [.Name y py] X.env := by rfl) (hs2 : starEach [.Name y py] X.env = (false, eval (.Name y py) X.env) :: starEach [] X.env := by rfl)
    (hpl : (backTo pos (starEach [.Name y py] X.env)).any (·.1) = false := by rfl) : FE X O (.Call (.Name x p) [e, .Name y py] [] pos) (e1 (isiD T) F) := by
  intro φ Hf0 H0 ρ σ Hf H d Q S hF k
  obtain ⟨z, h1, h2⟩ := e1_some hF
  refine toE (pe_callB call_isi hg hm hv (pa_cons peW (pa_cons (pe_bltn hg2 hm2 hv2 (v := .ty T) rfl hn2 hdb2) pa_nil hs2) hs) hn hdb hs hpl) ?_
  refine h φ Hf0 H0 ρ σ Hf H z _ S h1 fun v Hf1 H1 g1 r1 => ?_
  unfold isiD at h2
  split at h2
  · rename_i t ht
    cases h2
    exact ⟨v, .ty T, .type t, .type T, isi T t, rfl, .ty T, tyX_of (r1.all g1.s) ht, kit_isi hT ht, k _ Hf1 H1 g1 (.bl _)⟩
  · cases h2
end
end FL
namespace FL
variable [HW]
open PySem L2

/-! ### targets -/
def wG (X : Cx) (tg : Expr) : TG := fun v σ H Q => Lk (∀ pins s u, Inv X pins σ H s → RelV v u → wpAny (model X.prog X.w) X.A (assign tg X.env u) (fun _ s' => ∃ σ' H', Inv X pins σ' H' s' ∧ Q σ' H') X.xe s)
def wGs (X : Cx) (ts : List Expr) : TGs := fun vs σ H Q => Lk (∀ pins s us, Inv X pins σ H s → Vals vs us → wpAny (model X.prog X.w) X.A (assignInOrder ((assignEach ts X.env).map (·.2)) us) (fun _ s' => ∃ σ' H', Inv X pins σ' H' s' ∧ Q σ' H') X.xe s)
def FG (X : Cx) (O O' : List Nat) (tgs : List Nat) (tg : Expr) (g : D → Env → Option Env) : Prop :=
  ∀ (φ : Nat → Option Addr) (Hf0 H0 : Hp) (ρ : Env) (σ : St) (Hf H : Hp) (d : D) (v : V) (ρ' : Env) (Q : St → Hp → Prop), SR X.K φ Hf0 H0 O ρ σ Hf H → Rp X.K φ Hf d v → g d ρ = some ρ' →
    (∀ σ', SR X.K φ Hf0 H0 O' ρ' σ' Hf H → (∀ vs : List Nat, (∀ i ∈ tgs, i ∈ vs) → wipe σ' vs = wipe σ vs) → Q σ' H) → wG X tg v σ H Q
def FGs (X : Cx) (O O' : List Nat) (tgs : List Nat) (ts : List Expr) (g : List D → Env → Option Env) : Prop :=
  ∀ (φ : Nat → Option Addr) (Hf0 H0 : Hp) (ρ : Env) (σ : St) (Hf H : Hp) (ds : List D) (vs : List V) (ρ' : Env) (Q : St → Hp → Prop), SR X.K φ Hf0 H0 O ρ σ Hf H → RpAll X.K φ Hf ds vs → g ds ρ = some ρ' →
    (∀ σ', SR X.K φ Hf0 H0 O' ρ' σ' Hf H → (∀ vs : List Nat, (∀ i ∈ tgs, i ∈ vs) → wipe σ' vs = wipe σ vs) → Q σ' H) → wGs X ts vs σ H Q
def gSet (i : Nat) : D → Env → Option Env := fun d ρ => some (ρ.set i (some d))
def gNil : List D → Env → Option Env := fun ds ρ => match ds with | [] => some ρ | _ => none
def gCons (g : D → Env → Option Env) (gs : List D → Env → Option Env) : List D → Env → Option Env := fun ds ρ => match ds with
  | d :: ds => (match g d ρ with | some ρ' => gs ds ρ' | none => none) | [] => none
def gTup (g : List D → Env → Option Env) : D → Env → Option Env := fun d ρ => match d with | .tup ds => g ds ρ | _ => none
section
variable {X : Cx} {O O' O2 : List Nat} {tgs tgs2 : List Nat} {tg : Expr} {ts : List Expr} {pos : Pos} {g : D → Env → Option Env} {gs : List D → Env → Option Env}
theorem pgW : PG X tg (wG X tg) := ⟨fun pins s σ H v u Q I r h => h.h pins s u I r⟩
theorem pgsW : PGs X ts (wGs X ts) := ⟨fun pins s σ H vs us Q I r h => h.h pins s us I r⟩
theorem toG {t : TG} (h : PG X tg t) {v : V} {σ : St} {H : Hp} {Q : St → Hp → Prop} (q : t v σ H Q) : wG X tg v σ H Q := ⟨fun pins s u I r => h.run pins s σ H v u Q I r q⟩
theorem toGs {t : TGs} (h : PGs X ts t) {v : List V} {σ : St} {H : Hp} {Q : St → Hp → Prop} (q : t v σ H Q) : wGs X ts v σ H Q := ⟨fun pins s u I r => h.run pins s σ H v u Q I r q⟩
theorem wipe_set {σ : St} {i : Nat} {x : Option V} : ∀ {vs : List Nat}, i ∈ vs → wipe (σ.set i x) vs = wipe σ vs
  | [], h => by simp at h
  | v :: vs, h => by
    unfold wipe
    by_cases hi : i ∈ vs
    · rw [wipe_set hi]
    · have e : i = v := by
        rcases List.mem_cons.mp h with e | e
        · exact e
        · exact absurd e hi
      subst e
      have comm : ∀ ws : List Nat, i ∉ ws → wipe (σ.set i x) ws = (wipe σ ws).set i x := by
        intro ws
        induction ws with
        | nil => intro _; rfl
        | cons w ws ih =>
          intro hw
          simp only [List.mem_cons, not_or] at hw
          show (wipe (σ.set i x) ws).set w none = ((wipe σ ws).set w none).set i x
          rw [ih hw.2, List.set_comm _ _ hw.1]
      rw [comm vs hi, List.set_set]
theorem fg_name {i : Nat} {x : Str} (hN : X.N.Nodup) (hi : X.N[i]? = some x) (hx : Loc X.env.scope x) (hf : X.fn x = true ∨ X.env.scope.names.lookup x = some .local := by first | exact .inl rfl | exact .inr rfl | assumption) : FG X O (O.filter (· != i)) [i] (.Name x pos) (gSet i) := by
  intro φ Hf0 H0 ρ σ Hf H d v ρ' Q S r e k
  cases e
  refine toG (pg_name hN hi hx hf) ?_
  exact k _ (S.set i r) fun vs h => wipe_set (h i (by simp))
theorem fgs_nil : FGs X O O [] [] gNil := by
  intro φ Hf0 H0 ρ σ Hf H ds vs ρ' Q S r e k
  unfold gNil at e
  split at e
  · cases e
    cases r
    exact toGs pgs_nil ⟨rfl, k σ S fun _ _ => rfl⟩
  · cases e
theorem fgs_cons (h1 : FG X O O2 tgs tg g) (h2 : FGs X O2 O' tgs2 ts gs) (hs : (assignEach (tg :: ts) X.env).map (·.2) = assign tg X.env :: (assignEach ts X.env).map (·.2) := by rfl) : FGs X O O' (tgs ++ tgs2) (tg :: ts) (gCons g gs) := by
  intro φ Hf0 H0 ρ σ Hf H ds vs ρ' Q S r e k
  unfold gCons at e
  split at e
  · rename_i d ds
    split at e
    · rename_i ρ1 e1
      cases r with
      | cons r rr =>
        refine toGs (pgs_cons pgW pgsW hs) ⟨_, _, rfl, ?_⟩
        refine h1 φ Hf0 H0 ρ σ Hf H d _ ρ1 _ S r e1 fun σ1 S1 w1 => ?_
        refine h2 φ Hf0 H0 ρ1 σ1 Hf H ds _ ρ' _ S1 rr e fun σ2 S2 w2 => ?_
        exact k σ2 S2 fun us hu => (w2 us fun i hi => hu i (List.mem_append_right _ hi)).trans (w1 us fun i hi => hu i (List.mem_append_left _ hi))
    · cases e
  · cases e
theorem fg_tup {k : Nat} {n : Nat} (hc : X.calm = true) (h : FGs X O O' tgs ts gs) (hn : (assignEach ts X.env).length = n := by rfl) (hlen : ∀ ds ρ ρ', gs ds ρ = some ρ' → ds.length = n)
    (hst : (assignEach ts X.env).findIdx? (·.1) = none := by rfl) : FG X O O' tgs (.Tuple ts k pos) (gTup gs) := by
  intro φ Hf0 H0 ρ σ Hf H d v ρ' Q S r e kk
  unfold gTup at e
  split at e
  · cases r with
    | tup q r =>
      refine toG (pg_tup hc pgsW hn hst) ⟨_, _, rfl, SqT_same S.sub q, by rw [← r.length]; exact hlen _ _ _ e, ?_⟩
      exact h φ Hf0 H0 ρ σ Hf H _ _ ρ' Q S r e kk
  · cases e
theorem gNil_len : ∀ ds ρ ρ', gNil ds ρ = some ρ' → ds.length = 0 := fun ds ρ ρ' h => by
  unfold gNil at h; split at h
  · rfl
  · cases h
theorem gCons_len {n : Nat} (h : ∀ ds ρ ρ', gs ds ρ = some ρ' → ds.length = n) : ∀ ds ρ ρ', gCons g gs ds ρ = some ρ' → ds.length = n + 1 := fun ds ρ ρ' e => by
  unfold gCons at e; split at e
  · split at e
    · rw [List.length_cons, h _ _ _ e]
    · cases e
  · cases e
end

/-! ### what is walked -/
def ItD (K : PySem.W.Frag) (φ : Nat → Option Addr) (Hf : Hp) (ds : List D) (J : It) : Prop :=
  ∀ (i : Nat) (Hf1 H1 : Hp), Same Hf Hf1 → Same Hf1 H1 → (ds.length ≤ i → J.stop i H1) ∧
    ∀ d, ds[i]? = some d → J.go i H1 ∧ ∀ x H2, J.yld i H1 x H2 → ∃ Hf2, Gr Hf1 H1 Hf2 H2 ∧ Rp K φ Hf2 d x
def ItB (K : PySem.W.Frag) (φ : Nat → Option Addr) (Hf H : Hp) (ds : List D) (J : It) : Prop :=
  ∀ (i : Nat) (Hf1 H1 : Hp), Gr Hf H Hf1 H1 → (ds.length ≤ i → J.stop i H1) ∧
    ∀ d, ds[i]? = some d → J.go i H1 ∧ ∀ x H2, J.yld i H1 x H2 → ∃ Hf2, Gr Hf1 H1 Hf2 H2 ∧ Rp K φ Hf2 d x
theorem ItD.b {K : PySem.W.Frag} {φ : Nat → Option Addr} {Hf H : Hp} {ds : List D} {J : It} (h : ItD K φ Hf ds J) : ItB K φ Hf H ds J := fun i Hf1 H1 g => h i Hf1 H1 g.f g.s
def wI (X : Cx) (tg iter : Expr) : TI := fun σ H R => Lk (∀ pins s, Inv X pins σ H s → wpAny (model X.prog X.w) X.A (eval iter X.env) (fun v s1 => wpAny (model X.prog X.w) X.A (pyIter v) (PIE X pins σ tg R) X.xe s1) X.xe s)
theorem piW {X : Cx} {tg iter : Expr} : PI X tg iter (wI X tg iter) := ⟨fun pins s σ H R I h => h.h pins s I⟩
theorem toI {X : Cx} {tg iter : Expr} {t : TI} (h : PI X tg iter t) {σ : St} {H : Hp} {R : It → Hp → Prop} (q : t σ H R) : wI X tg iter σ H R := ⟨fun pins s I => h.run pins s σ H R I q⟩
def FI (X : Cx) (O : List Nat) (tg iter : Expr) (F : Env → Option (List D)) : Prop :=
  ∀ (φ : Nat → Option Addr) (Hf0 H0 : Hp) (ρ : Env) (σ : St) (Hf H : Hp) (ds : List D) (R : It → Hp → Prop), SR X.K φ Hf0 H0 O ρ σ Hf H → F ρ = some ds → (∀ J Hf' H', Gr Hf H Hf' H' → ItD X.K φ Hf' ds J → R J H') → wI X tg iter σ H R
def FIB (X : Cx) (O : List Nat) (tg iter : Expr) (F : Env → Option (List D)) : Prop :=
  ∀ (φ : Nat → Option Addr) (Hf0 H0 : Hp) (ρ : Env) (σ : St) (Hf H : Hp) (ds : List D) (R : It → Hp → Prop), SR X.K φ Hf0 H0 O ρ σ Hf H → F ρ = some ds → (∀ J Hf' H', Gr Hf H Hf' H' → ItB X.K φ Hf' H' ds J → R J H') → wI X tg iter σ H R
def iSeq (p : D → Bool) (F : Env → Option D) : Env → Option (List D) := fun ρ => match F ρ with | some d => if p d then seqD d else none | none => none
def isTup : D → Bool | .tup _ => true | _ => false
def iStr (F : Env → Option D) : Env → Option (List D) := fun ρ => match F ρ with | some (.str z) => some (z.cps.toList.map fun c => .str ⟨#[c]⟩) | _ => none
def rngD (lo : Int) (n : Nat) : List D := (List.range n).map fun (k : Nat) => D.int (lo + (k : Int))
def iRng1 (F : Env → Option (List D)) : Env → Option (List D) := fun ρ => match F ρ with | some [.int j] => if -(2 ^ 62) ≤ j ∧ j < 2 ^ 62 then some (rngD 0 j.toNat) else none | _ => none
def iRng2 (F : Env → Option (List D)) : Env → Option (List D) := fun ρ => match F ρ with | some [.int i, .int j] => if -(2 ^ 62) ≤ i ∧ i < 2 ^ 62 ∧ -(2 ^ 62) ≤ j ∧ j < 2 ^ 62 then some (rngD i (j - i).toNat) else none | _ => none
def enumL : Nat → List D → List D
  | _, [] => [] | k, d :: ds => .tup [.int (k : Nat), d] :: enumL (k + 1) ds
def iEnum (F : Env → Option D) : Env → Option (List D) := fun ρ => match F ρ with | some d => if isLst d then (match seqD d with | some ds => some (enumL 0 ds) | none => none) else none | none => none
section
variable {X : Cx} {O : List Nat} {tg e a b : Expr} {p pos : Pos} {F G : Env → Option D} {Fs : Env → Option (List D)}
theorem itD_list {K : PySem.W.Frag} {φ : Nat → Option Addr} {Hf : Hp} {a : Addr} {ds : List D} {vs : List V} (q : SqL K Hf a vs) (r : RpAll K φ Hf ds vs) : ItD K φ Hf ds (Itl K a) := fun i Hf1 H1 s1 s2 => by
  have q1 := (s1.trans s2).seq q
  refine ⟨fun h => ⟨vs, q1, by rw [← r.length]; exact h⟩, fun d hd => ?_⟩
  obtain ⟨v, e1, r1⟩ := r.get hd
  refine ⟨⟨vs, v, q1, e1⟩, fun x H2 ⟨e2, e3⟩ => ?_⟩
  subst e2
  have := e3 vs q1
  rw [e1] at this
  cases this
  exact ⟨Hf1, .refl s2, r1.mono s1⟩
theorem itD_tup {K : PySem.W.Frag} {φ : Nat → Option Addr} {Hf : Hp} {a : Addr} {ds : List D} {vs : List V} (q : SqT K Hf a vs) (r : RpAll K φ Hf ds vs) : ItD K φ Hf ds (Itt K a) := fun i Hf1 H1 s1 s2 => by
  have q1 := SqT_same (s1.trans s2) q
  refine ⟨fun h => ⟨vs, q1, by rw [← r.length]; exact h⟩, fun d hd => ?_⟩
  obtain ⟨v, e1, r1⟩ := r.get hd
  refine ⟨⟨vs, v, q1, e1⟩, fun x H2 ⟨e2, e3⟩ => ?_⟩
  subst e2
  have := e3 vs q1
  rw [e1] at this
  cases this
  exact ⟨Hf1, .refl s2, r1.mono s1⟩
theorem itB_list {K : PySem.W.Frag} {φ : Nat → Option Addr} {Hf H : Hp} {a : Addr} {ds : List D} {vs : List V} (q : SqL K H a vs) (r : RpAll K φ Hf ds vs) : ItB K φ Hf H ds (Itl K a) := fun i Hf1 H1 g => by
  have q1 := g.h.seq q
  refine ⟨fun h => ⟨vs, q1, by rw [← r.length]; exact h⟩, fun d hd => ?_⟩
  obtain ⟨v, e1, r1⟩ := r.get hd
  refine ⟨⟨vs, v, q1, e1⟩, fun x H2 ⟨e2, e3⟩ => ?_⟩
  subst e2
  have := e3 vs q1
  rw [e1] at this
  cases this
  exact ⟨Hf1, .refl g.s, r1.mono g.f⟩
theorem iSeq_some {pp : D → Bool} {ρ : Env} {ds : List D} (h : iSeq pp F ρ = some ds) : ∃ d, F ρ = some d ∧ pp d = true ∧ seqD d = some ds := by
  unfold iSeq at h
  split at h
  · rename_i d hd
    split at h
    · rename_i hp; exact ⟨d, hd, hp, h⟩
    · cases h
  · cases h
theorem Rp.lst_f {K : PySem.W.Frag} {φ : Nat → Option Addr} {Hf : Hp} {d : D} {v : V} {ds : List D} (r : Rp K φ Hf d v) (h1 : isLst d = true) (h2 : seqD d = some ds) : ∃ a vs, v = .ref a ∧ SqL K Hf a vs ∧ RpAll K φ Hf ds vs := by
  cases r <;> first | (cases h1) | skip
  · rename_i q r; cases h2; exact ⟨_, _, rfl, .inl (.inl q), r⟩
  · rename_i q r; cases h2; exact ⟨_, _, rfl, q, r⟩
theorem fi_list (h : FE X O e F) : FI X O tg e (iSeq isLst F) := by
  intro φ Hf0 H0 ρ σ Hf H ds R S hF k
  obtain ⟨d, h1, h2, h3⟩ := iSeq_some hF
  refine toI (pi_list peW) ?_
  refine h φ Hf0 H0 ρ σ Hf H d _ S h1 fun v Hf1 H1 g1 r1 => ?_
  obtain ⟨a, vs, e1, q, r⟩ := r1.lst_f h2 h3
  exact ⟨a, e1, ⟨vs, g1.s.seq q⟩, k _ Hf1 H1 g1 (itD_list q r)⟩
theorem fib_of (h : FI X O tg e Fs) : FIB X O tg e Fs := fun φ Hf0 H0 ρ σ Hf H ds R S hF k => h φ Hf0 H0 ρ σ Hf H ds R S hF fun J Hf1 H1 g i => k J Hf1 H1 g i.b
theorem fib_list (h : FB X O e F) : FIB X O tg e (iSeq isLst F) := by
  intro φ Hf0 H0 ρ σ Hf H ds R S hF k
  obtain ⟨d, h1, h2, h3⟩ := iSeq_some hF
  refine toI (pi_list peW) ?_
  refine h φ Hf0 H0 ρ σ Hf H d _ S h1 fun v Hf1 H1 g1 r1 => ?_
  obtain ⟨p, ws, e1, e2, e3⟩ := isLst_sq g1.s r1 h2 h3
  exact ⟨p, e1, ⟨ws, e2⟩, k _ Hf1 H1 g1 (itB_list e2 e3)⟩
theorem fi_tup (h : FE X O e F) : FI X O tg e (iSeq isTup F) := by
  intro φ Hf0 H0 ρ σ Hf H ds R S hF k
  obtain ⟨d, h1, h2, h3⟩ := iSeq_some hF
  refine toI (pi_tup peW) ?_
  refine h φ Hf0 H0 ρ σ Hf H d _ S h1 fun v Hf1 H1 g1 r1 => ?_
  cases r1 <;> first | (cases h2) | skip
  rename_i q r
  cases h3
  exact ⟨_, rfl, ⟨_, SqT_same g1.s q⟩, k _ Hf1 H1 g1 (itD_tup q r)⟩
theorem itD_rng {K : PySem.W.Frag} {φ : Nat → Option Addr} {Hf : Hp} {lo : Int} {n : Nat} : ItD K φ Hf (rngD lo n) (Itr lo n) := fun i Hf1 H1 s1 s2 => by
  unfold rngD
  refine ⟨fun h => by show n ≤ i; simpa using h, fun d hd => ?_⟩
  rw [List.getElem?_map] at hd
  cases hq : (List.range n)[i]? with
  | none => rw [hq] at hd; cases hd
  | some c =>
    rw [hq] at hd; cases hd
    obtain ⟨h1, h2⟩ := List.getElem?_eq_some_iff.mp hq
    have h3 : i < n := by simpa using h1
    have h4 : c = i := by simpa using h2.symm
    subst h4
    exact ⟨h3, fun x H2 ⟨e1, e2⟩ => by subst e1 e2; exact ⟨Hf1, .refl s2, .int _⟩⟩
theorem fi_rng1 (hg : Gl X "range") (hm : X.mg "range" = none) (h : FA X O [a] Fs) (hs : starEach [a] X.env = [(false, eval a X.env)] := by rfl) : FI X O tg (.Call (.Name "range" p) [a] [] pos) (iRng1 Fs) := by
  intro φ Hf0 H0 ρ σ Hf H ds R S hF k
  unfold iRng1 at hF
  split at hF
  · rename_i j hj
    split at hF
    · rename_i hb
      cases hF
      refine toI (pi_range1 hg hm paW hs) ?_
      refine h φ Hf0 H0 ρ σ Hf H _ _ S hj fun vs Hf1 H1 g1 r1 => ?_
      cases r1 with
      | cons r t =>
        cases t
        cases r
        exact ⟨j, rfl, hb.1, hb.2, k _ Hf1 H1 g1 itD_rng⟩
    · cases hF
  · cases hF
end

/-! ### list comprehensions -/
def wipeE (ρ : Env) : List Nat → Env
  | [] => ρ
  | v :: vs => (wipeE ρ vs).set v none
def compL (g : D → Env → Option Env) (T : Env → Option Bool) (E : Env → Option D) (ρ : Env) : List D → Option (List D)
  | [] => some []
  | d :: ds => match g d ρ with
    | none => none
    | some ρ2 => match T ρ2 with
      | none => none
      | some false => compL g T E ρ ds
      | some true => match E ρ2 with
        | none => none
        | some y => match compL g T E ρ ds with | none => none | some ys => some (y :: ys)
def eComp (vs : List Nat) (Fi : Env → Option (List D)) (g : D → Env → Option Env) (T : Env → Option Bool) (E : Env → Option D) : Env → Option D := fun ρ =>
  match Fi ρ with | some ds => if ds.length ≤ sizeLine then (match compL g T E (wipeE ρ vs) ds with | some ys => some (.lst ys) | none => none) else none | none => none
def tYesE : Env → Option Bool := fun _ => some true
theorem wipeE_len (ρ : Env) : ∀ vs : List Nat, (wipeE ρ vs).length = ρ.length
  | [] => rfl
  | v :: vs => by unfold wipeE; rw [List.length_set, wipeE_len ρ vs]
theorem wipeE_some {ρ : Env} {i : Nat} {x : D} : ∀ {vs : List Nat}, (wipeE ρ vs)[i]? = some (some x) → ρ[i]? = some (some x) ∧ i ∉ vs
  | [], h => ⟨h, by simp⟩
  | v :: vs, h => by
    unfold wipeE at h
    by_cases hi : v = i
    · subst hi
      by_cases hv : v < (wipeE ρ vs).length
      · rw [List.getElem?_set_self hv] at h; cases h
      · rw [List.getElem?_eq_none (by simpa using hv)] at h; cases h
    · rw [List.getElem?_set_ne hi] at h
      obtain ⟨h1, h2⟩ := wipeE_some h
      exact ⟨h1, by simp only [List.mem_cons, not_or]; exact ⟨fun e => hi e.symm, h2⟩⟩
theorem SR.wipe {K : PySem.W.Frag} {φ : Nat → Option Addr} {Hf0 H0 Hf H : Hp} {O : List Nat} {ρ : Env} {σ : St} (S : SR K φ Hf0 H0 O ρ σ Hf H) (vs : List Nat) : SR K φ Hf0 H0 O (wipeE ρ vs) (L2.wipe σ vs) Hf H := by
  refine ⟨by rw [wipeE_len, wipe_length]; exact S.len, S.sub, S.gf, S.gh, S.gn, fun i d e n => ?_, fun i d e m => ?_, fun i j d e a h1 h2 m1 m2 hne q1 => ?_⟩
  · obtain ⟨e1, hn⟩ := wipeE_some e
    obtain ⟨v, e2, r⟩ := S.val i d e1 n
    exact ⟨v, by rw [wipe_out hn]; exact e2, r⟩
  · obtain ⟨e1, hn⟩ := wipeE_some e
    obtain ⟨a, xs, us, q1, q2, q3⟩ := S.own i d e1 m
    exact ⟨a, xs, us, q1, by rw [wipe_out hn]; exact q2, q3⟩
  · obtain ⟨e1, hn1⟩ := wipeE_some h1
    obtain ⟨e2, hn2⟩ := wipeE_some h2
    rw [wipe_out hn1] at q1
    rw [wipe_out hn2]
    exact S.ne i j d e a e1 e2 m1 m2 hne q1
theorem wipe_wipe {σ : St} {vs : List Nat} : L2.wipe (L2.wipe σ vs) vs = L2.wipe σ vs := by
  refine List.ext_getElem? fun i => ?_
  by_cases h : i ∈ vs
  · have z : ∀ (τ : St), (L2.wipe τ vs)[i]? = if i < τ.length then some none else none := by
      intro τ
      clear σ
      induction vs with
      | nil => simp at h
      | cons v vs ih =>
        show ((L2.wipe τ vs).set v none)[i]? = _
        by_cases hv : v = i
        · subst hv
          by_cases hl : v < τ.length
          · rw [List.getElem?_set_self (by rw [wipe_length]; exact hl), if_pos hl]
          · rw [List.getElem?_eq_none (by rw [List.length_set, wipe_length]; omega), if_neg hl]
        · rw [List.getElem?_set_ne hv]
          rcases List.mem_cons.mp h with e | e
          · exact absurd e.symm hv
          · exact ih e
    rw [z, z, wipe_length]
  · rw [wipe_out h]
section
variable {X : Cx} {O O2 : List Nat} {tg iter elt : Expr} {scope : Scope} {own : List (Str × Nat)} {pos : Pos}
def uE (X : Cx) (scope : Scope) (e : Expr) : TE := fun σ H Q => ∀ (s : Shared) (H0 : Hp) (C : Addr) (cl : List (Str × Addr)) (fp : List Addr), wE (X.blk s H0 scope (compEnvC scope cl C X.env) fp) e σ H Q
def uT (X : Cx) (scope : Scope) (e : Expr) : TT := fun σ H Q => ∀ (s : Shared) (H0 : Hp) (C : Addr) (cl : List (Str × Addr)) (fp : List Addr), wT (X.blk s H0 scope (compEnvC scope cl C X.env) fp) e σ H Q
def uG (X : Cx) (scope : Scope) (e : Expr) : TG := fun v σ H Q => ∀ (s : Shared) (H0 : Hp) (C : Addr) (cl : List (Str × Addr)) (fp : List Addr), wG (X.blk s H0 scope (compEnvC scope cl C X.env) fp) e v σ H Q
theorem lc_go {wi : TI} {tt : TT} {Fi : Env → Option (List D)} {g : D → Env → Option Env} {T : Env → Option Bool} {E : Env → Option D} {tgs vs : List Nat}
    (hw : ∀ (σ : St) (H : Hp) (R : It → Hp → Prop), wI X tg iter σ H R → wi σ H R)
    (hi : FIB X O tg iter Fi) (hg : ∀ s H C cl fp, FG (X.blk s H scope (compEnvC scope cl C X.env) fp) O O2 tgs tg g) (htg : ∀ i ∈ tgs, i ∈ vs)
    (ht : ∀ (φ : Nat → Option Addr) (Hf0 H0 : Hp) (ρ : Env) (σ : St) (Hf H : Hp) (b : Bool) (Q : Bool → Hp → Prop), SR X.K φ Hf0 H0 O2 ρ σ Hf H → T ρ = some b → (∀ Hf' H', Gr Hf H Hf' H' → Q b H') → tt σ H Q)
    (he : ∀ s H C cl fp, FE (X.blk s H scope (compEnvC scope cl C X.env) fp) O2 elt E)
    {φ : Nat → Option Addr} {Hf0 H0 : Hp} {ρ : Env} {σ : St} {Hf H : Hp} {d : D} {Q : VK} (S : SR X.K φ Hf0 H0 O ρ σ Hf H) (hF : eComp vs Fi g T E ρ = some d)
    (k : ∀ a xs us Hf' H', d = .lst xs → Gr Hf H Hf' H' → H a = none → Hf' a = none → H' a = some (.lst us) → RpAll X.K φ Hf' xs us → Q (.ref a) H') : tLc wi (uG X scope tg) tt (uE X scope elt) vs σ H Q := by
  unfold eComp at hF
  split at hF
  · rename_i ds hds
    split at hF
    · rename_i hlen
      split at hF
      · rename_i ys hys
        cases hF
        refine hw σ H _ (hi φ Hf0 H0 ρ σ Hf H ds _ S hds fun J Hf1 H1 g1 itb => ?_)
        intro Dn hDn
        refine ⟨fun i m H2 => m = ds.length - i ∧ i ≤ ds.length ∧ ∃ Hf2 acc us rest, Gr Hf1 H1 Hf2 H2 ∧ Hf2 Dn = none ∧ H2 Dn = some (.lst us) ∧ RpAll X.K φ Hf2 acc us ∧ acc.length ≤ i ∧ compL g T E (wipeE ρ vs) (ds.drop i) = some rest ∧ acc ++ rest = ys,
          ⟨ds.length, by simp, Nat.zero_le _, Hf1, [], [], ys, .own g1.s hDn, g1.s.free hDn, upd_same, .nil, Nat.le_refl _, by simpa using hys, rfl⟩, ?_⟩
        rintro i m H2 ⟨rfl, hil, Hf2, acc, us, rest, g2, hf2, hh2, r2, hal, hrest, rfl⟩
        by_cases hlt : i < ds.length
        · right
          have hget : ds[i]? = some ds[i] := List.getElem?_eq_getElem hlt
          obtain ⟨hgo, hyld⟩ := (itb i Hf2 H2 g2).2 _ hget
          refine ⟨hgo, fun H' => ∃ Hf3 acc' us' rest', Gr Hf1 H1 Hf3 H' ∧ Hf3 Dn = none ∧ H' Dn = some (.lst us') ∧ RpAll X.K φ Hf3 acc' us' ∧ acc'.length ≤ i + 1 ∧ compL g T E (wipeE ρ vs) (ds.drop (i + 1)) = some rest' ∧ acc' ++ rest' = acc ++ rest,
            fun H' ⟨Hf3, acc', us', rest', a1, a2, a3, a4, a5, a6, a7⟩ => ⟨ds.length - (i + 1), by omega, rfl, hlt, Hf3, acc', us', rest', a1, a2, a3, a4, a5, a6, a7⟩, fun x H3 hy => ?_⟩
          obtain ⟨Hf3, g3, r3⟩ := hyld x H3 hy
          have g13 := g2.trans g3
          have S3 := ((S.gr g1).gr g13).wipe vs
          rw [List.drop_eq_getElem_cons hlt] at hrest
          unfold compL at hrest
          split at hrest
          · cases hrest
          · rename_i ρ2 hρ2
            intro s0 h0 C0 cl0 fp0
            refine hg s0 h0 C0 cl0 fp0 φ Hf0 H0 _ _ Hf3 H3 _ x ρ2 _ S3 r3 hρ2 fun σ2 S4 w4 => ⟨(w4 vs htg).trans wipe_wipe, ?_⟩
            split at hrest
            · cases hrest
            · rename_i hT
              refine ht φ Hf0 H0 ρ2 σ2 Hf3 H3 false _ S4 hT fun Hf4 H4 g4 => ?_
              refine iteF ⟨Hf4, acc, us, rest, g13.trans g4, ?_, ?_, (r2.mono g3.f).mono g4.f, by omega, hrest, rfl⟩
              · exact (g3.trans g4).n _ _ hh2 hf2
              · exact (g3.trans g4).h _ _ hh2
            · rename_i hT
              split at hrest
              · cases hrest
              · rename_i y hy2
                split at hrest
                · cases hrest
                · rename_i ys2 hys2
                  cases hrest
                  refine ht φ Hf0 H0 ρ2 σ2 Hf3 H3 true _ S4 hT fun Hf4 H4 g4 => iteT ?_
                  intro s1 h1 C1 cl1 fp1
                  refine he s1 h1 C1 cl1 fp1 φ Hf0 H0 ρ2 σ2 Hf4 H4 y _ (S4.gr g4) hy2 fun v Hf5 H5 g5 r5 => ?_
                  have g35 := g3.trans (g4.trans g5)
                  have hh5 := g35.h _ _ hh2
                  have hf5 := g35.n _ _ hh2 hf2
                  refine ⟨us, hh5, by rw [← r2.length]; omega, Hf5, acc ++ [y], us ++ [v], ys2, ?_, hf5, upd_same, ((r2.mono g35.f).append (.one r5)), by rw [List.length_append, List.length_singleton]; omega, hys2, by simp⟩
                  have gg := g2.trans g35
                  refine ⟨gg.f, fun b o e => ?_, fun b o e => ?_, gg.n⟩
                  · rw [upd_ne (ne_of_none e hDn)]; exact gg.h _ _ e
                  · rw [upd_ne (ne_of_none e hf5)]; exact gg.s _ _ e
        · left
          have hie : i = ds.length := by omega
          refine ⟨(itb i Hf2 H2 g2).1 (by omega), ?_⟩
          subst hie
          rw [List.drop_length] at hrest
          cases hrest
          rw [List.append_nil] at *
          exact k Dn _ us Hf2 H2 rfl (g1.trans g2) (g1.h.free hDn) hf2 hh2 r2
      · cases hF
    · cases hF
  · cases hF
end
end FL
namespace FL
variable [HW]
open PySem L2

/-! ### statements -/
inductive Out where
  | nx (ρ : Env) | rt (d : D) | bk (ρ : Env) | ct (ρ : Env)
def RtK (K : PySem.W.Frag) (φ : Nat → Option Addr) (Hf0 H0 : Hp) (fr : Bool) (d : D) (rt : VK) : Prop := match fr with
  | false => ∀ v Hf' H', Gr Hf0 H0 Hf' H' → Rp K φ Hf' d v → rt v H'
  | true => ∀ a xs vs Hf' H', d = .lst xs → Gr Hf0 H0 Hf' H' → H0 a = none → Hf' a = none → H' a = some (.lst vs) → RpAll K φ Hf' xs vs → rt (.ref a) H'
def Post (K : PySem.W.Frag) (φ : Nat → Option Addr) (Hf0 H0 : Hp) (fr : Bool) (L O : List Nat) (Hf : Hp) (Dn : Ends) : Out → Prop
  | .nx ρ => ∀ σ' Hf' H', Same Hf Hf' → SR K φ Hf0 H0 O ρ σ' Hf' H' → Dn.nx σ' H'
  | .rt d => RtK K φ Hf0 H0 fr d Dn.rt
  | .bk ρ => ∀ σ' Hf' H', Same Hf Hf' → SR K φ Hf0 H0 L ρ σ' Hf' H' → Dn.bk σ' H'
  | .ct ρ => ∀ σ' Hf' H', Same Hf Hf' → SR K φ Hf0 H0 L ρ σ' Hf' H' → Dn.ct σ' H'
theorem Post.mono {K : PySem.W.Frag} {φ : Nat → Option Addr} {Hf0 H0 : Hp} {fr : Bool} {L O : List Nat} {Hf Hf1 : Hp} {Dn : Ends} (s : Same Hf Hf1) : ∀ {out : Out}, Post K φ Hf0 H0 fr L O Hf Dn out → Post K φ Hf0 H0 fr L O Hf1 Dn out
  | .nx _, h => fun σ' Hf' H' s' => h σ' Hf' H' (s.trans s')
  | .rt _, h => h
  | .bk _, h => fun σ' Hf' H' s' => h σ' Hf' H' (s.trans s')
  | .ct _, h => fun σ' Hf' H' s' => h σ' Hf' H' (s.trans s')
def FS (X : Cx) (fr : Bool) (L O O' : List Nat) (st : Stmt) (G : Env → Option Out) : Prop :=
  ∀ (φ : Nat → Option Addr) (Hf0 H0 : Hp) (ρ : Env) (σ : St) (Hf H : Hp) (out : Out) (Dn : Ends), SR X.K φ Hf0 H0 O ρ σ Hf H → G ρ = some out → Post X.K φ Hf0 H0 fr L O' Hf Dn out → wS X st Dn σ H
def FSs (X : Cx) (fr : Bool) (L O O' : List Nat) (sts : List Stmt) (G : Env → Option Out) : Prop :=
  ∀ (φ : Nat → Option Addr) (Hf0 H0 : Hp) (ρ : Env) (σ : St) (Hf H : Hp) (out : Out) (Dn : Ends), SR X.K φ Hf0 H0 O ρ σ Hf H → G ρ = some out → Post X.K φ Hf0 H0 fr L O' Hf Dn out → wSs X sts Dn σ H
def sNil : Env → Option Out := fun ρ => some (.nx ρ)
def sSeq (F G : Env → Option Out) : Env → Option Out := fun ρ => match F ρ with | some (.nx ρ') => G ρ' | o => o
def sX (F : Env → Option D) : Env → Option Out := fun ρ => match F ρ with | some _ => some (.nx ρ) | none => none
def sRet (F : Env → Option D) : Env → Option Out := fun ρ => match F ρ with | some d => some (.rt d) | none => none
def sIf (C : Env → Option Bool) (F G : Env → Option Out) : Env → Option Out := fun ρ => match C ρ with | some true => F ρ | some false => G ρ | none => none
def sSet (i : Nat) (F : Env → Option D) : Env → Option Out := fun ρ => match F ρ with | some d => some (.nx (ρ.set i (some d))) | none => none
def sAsg (g : D → Env → Option Env) (F : Env → Option D) : Env → Option Out := fun ρ => match F ρ with | some d => (match g d ρ with | some ρ' => some (.nx ρ') | none => none) | none => none
def sMut (i : Nat) (f : List D → List D → Option (List D)) (Fs : Env → Option (List D)) : Env → Option Out := fun ρ =>
  match Fs ρ with | some ds => (match eVar i ρ with | some (.lst xs) => (match f xs ds with | some ys => some (.nx (ρ.set i (some (.lst ys)))) | none => none) | _ => none) | none => none
def loopF (g : D → Env → Option Env) (G : Env → Option Out) : List D → Env → Option Out
  | [], ρ => some (.nx ρ)
  | d :: ds, ρ => match g d ρ with
    | none => none
    | some ρ1 => match G ρ1 with
      | some (.nx ρ2) => loopF g G ds ρ2
      | some (.ct ρ2) => loopF g G ds ρ2
      | some (.bk ρ2) => some (.nx ρ2)
      | some (.rt d) => some (.rt d)
      | none => none
def sFor (Fi : Env → Option (List D)) (g : D → Env → Option Env) (G : Env → Option Out) : Env → Option Out := fun ρ => match Fi ρ with | some ds => loopF g G ds ρ | none => none
def sWhile (n : Nat) (C : Env → Option Bool) (G : Env → Option Out) : Env → Option Out := match n with
  | 0 => fun _ => none
  | n + 1 => fun ρ => match C ρ with
    | some true => (match G ρ with
      | some (.nx ρ2) => sWhile n C G ρ2
      | some (.ct ρ2) => sWhile n C G ρ2
      | some (.bk ρ2) => some (.nx ρ2)
      | some (.rt d) => some (.rt d)
      | none => none)
    | some false => some (.nx ρ)
    | none => none
section
variable {X : Cx} {fr : Bool} {L O O' O1 O2 : List Nat} {st : Stmt} {sts : List Stmt} {e tg : Expr} {es : List Expr} {pos : Pos} {F : Env → Option D} {Fs : Env → Option (List D)} {G G2 : Env → Option Out} {g : D → Env → Option Env} {tgs : List Nat}
theorem fss_nil : FSs X fr L O O [] sNil := fun φ Hf0 H0 ρ σ Hf H out Dn S h P => by
  cases h
  exact toSs pss_nil (P σ Hf H (Same.refl _) S)
theorem fss_cons (h : FS X fr L O O1 st G) (t : FSs X fr L O1 O' sts G2) : FSs X fr L O O' (st :: sts) (sSeq G G2) := fun φ Hf0 H0 ρ σ Hf H out Dn S hF P => by
  refine toSs (pss_cons psW pssW) ?_
  unfold sSeq at hF
  split at hF
  · rename_i ρ' h1
    exact h φ Hf0 H0 ρ σ Hf H _ _ S h1 fun σ1 Hf1 H1 s1 S1 => t φ Hf0 H0 ρ' σ1 Hf1 H1 out Dn S1 hF (P.mono s1)
  · rename_i hne
    refine h φ Hf0 H0 ρ σ Hf H out _ S hF ?_
    cases out with
    | nx ρ' => exact absurd hF (hne ρ')
    | _ => exact P
theorem fs_frz (h : FS X fr L O1 O' st G) (hL : O1.all (O.contains ·) = true) : FS X fr L O O' st G := fun φ Hf0 H0 ρ σ Hf H out Dn S hF P => by
  obtain ⟨Hf1, s1, S1⟩ := S.weak O1 hL
  exact h φ Hf0 H0 ρ σ Hf1 H out Dn S1 hF (P.mono s1)
theorem fss_to (h : FSs X fr L O O1 sts G) (hL : O'.all (O1.contains ·) = true) : FSs X fr L O O' sts G := fun φ Hf0 H0 ρ σ Hf H out Dn S hF P => by
  refine h φ Hf0 H0 ρ σ Hf H out Dn S hF ?_
  cases out with
  | nx ρ' => exact fun σ' Hf' H' s' S' => let ⟨Hf2, s2, S2⟩ := S'.weak O' hL; P σ' Hf2 H' (s'.trans s2) S2
  | _ => exact P
theorem fs_ret (h : FE X O e F) : FS X false L O O' (.Return (some e) pos) (sRet F) := fun φ Hf0 H0 ρ σ Hf H out Dn S hF P => by
  unfold sRet at hF
  split at hF
  · rename_i d hd
    cases hF
    exact toS (ps_ret peW) (h φ Hf0 H0 ρ σ Hf H d _ S hd fun v Hf1 H1 g1 r1 => P v Hf1 H1 (S.from0.trans g1) r1)
  · cases hF
theorem fs_retNew (h : FN X O e F) : FS X true L O O' (.Return (some e) pos) (sRet F) := fun φ Hf0 H0 ρ σ Hf H out Dn S hF P => by
  unfold sRet at hF
  split at hF
  · rename_i d hd
    cases hF
    refine toS (ps_ret peW) (h φ Hf0 H0 ρ σ Hf H d _ S hd fun a xs vs Hf1 H1 e1 g1 q1 q2 q3 r1 => ?_)
    exact P a xs vs Hf1 H1 e1 (S.from0.trans g1) (S.gh.free q1) q2 q3 r1
  · cases hF
theorem fs_if {c : Expr} {T : Env → Option Bool} {a b : List Stmt} (h : FT X O c T) (h1 : FSs X fr L O O' a G) (h2 : FSs X fr L O O' b G2) : FS X fr L O O' (.If c a b pos) (sIf T G G2) := fun φ Hf0 H0 ρ σ Hf H out Dn S hF P => by
  refine toS (ps_if ptW pssW pssW) ?_
  unfold sIf at hF
  split at hF
  · rename_i hb
    exact h φ Hf0 H0 ρ σ Hf H true _ S hb fun Hf1 H1 g1 => iteT (h1 φ Hf0 H0 ρ σ Hf1 H1 out Dn (S.gr g1) hF (P.mono g1.f))
  · rename_i hb
    exact h φ Hf0 H0 ρ σ Hf H false _ S hb fun Hf1 H1 g1 => iteF (h2 φ Hf0 H0 ρ σ Hf1 H1 out Dn (S.gr g1) hF (P.mono g1.f))
  · cases hF
theorem fs_set {i : Nat} {x : Str} {p2 : Pos} (hN : X.N.Nodup) (hi : X.N[i]? = some x) (hx : Loc X.env.scope x) (h : FE X O e F) (hs : swapsWith e (some (.Name x p2)) pos.line X.env = pure false := by rfl) (hf : X.fn x = true ∨ X.env.scope.names.lookup x = some .local := by first | exact .inl rfl | exact .inr rfl | assumption) :
    FS X fr L O (O.filter (· != i)) (.Assign [.Name x p2] e pos) (sSet i F) := fun φ Hf0 H0 ρ σ Hf H out Dn S hF P => by
  unfold sSet at hF
  split at hF
  · rename_i d hd
    cases hF
    exact toS (ps_set hN hi hx peW hs hf) (h φ Hf0 H0 ρ σ Hf H d _ S hd fun v Hf1 H1 g1 r1 => P _ Hf1 H1 g1.f ((S.gr g1).set i r1))
  · cases hF
theorem SR.apart {K : PySem.W.Frag} {φ : Nat → Option Addr} {Hf0 H0 Hf H : Hp} {ρ : Env} {σ : St} {a : Addr} (S : SR K φ Hf0 H0 O ρ σ Hf H) (h : H a = none) : ∀ j d, ρ[j]? = some (some d) → j ∈ O → σ[j]? ≠ some (some (.ref a)) := fun j d hj m e => by
  obtain ⟨b, xs, vs, e1, e2, e3, e4, e5, r⟩ := S.own j d hj m
  rw [e] at e2
  cases e2
  rw [h] at e3
  cases e3
theorem fs_setNew {i : Nat} {x : Str} {p2 : Pos} (hN : X.N.Nodup) (hi : X.N[i]? = some x) (hx : Loc X.env.scope x) (h : FN X O e F) (hs : swapsWith e (some (.Name x p2)) pos.line X.env = pure false := by rfl) (hf : X.fn x = true ∨ X.env.scope.names.lookup x = some .local := by first | exact .inl rfl | exact .inr rfl | assumption) :
    FS X fr L O (i :: O.filter (· != i)) (.Assign [.Name x p2] e pos) (sSet i F) := fun φ Hf0 H0 ρ σ Hf H out Dn S hF P => by
  unfold sSet at hF
  split at hF
  · rename_i d hd
    cases hF
    refine toS (ps_set hN hi hx peW hs hf) (h φ Hf0 H0 ρ σ Hf H d _ S hd fun a xs vs Hf1 H1 e1 g1 q1 q2 q3 r1 => ?_)
    subst e1
    exact P _ Hf1 H1 g1.f ((S.gr g1).setOwn i q3 q2 (S.gh.free q1) (S.apart q1) r1)
  · cases hF
theorem fs_asg (h : FE X O e F) (hg : FG X O O' tgs tg g) (hs : swapsWithSole [tg] e pos.line X.env = pure false := by rfl) (hw : swappedStores [tg] e X.env = pure none := by rfl)
    (h1 : (assignEach [tg] X.env).map (·.2) = [assign tg X.env] := by rfl) : FS X fr L O O' (.Assign [tg] e pos) (sAsg g F) := fun φ Hf0 H0 ρ σ Hf H out Dn S hF P => by
  unfold sAsg at hF
  split at hF
  · rename_i d hd
    split at hF
    · rename_i ρ' hρ
      cases hF
      refine toS (ps_asg peW pgW hs hw h1) (h φ Hf0 H0 ρ σ Hf H d _ S hd fun v Hf1 H1 g1 r1 => ?_)
      exact hg φ Hf0 H0 ρ σ Hf1 H1 d v ρ' _ (S.gr g1) r1 hρ fun σ' S' _ => P σ' Hf1 H1 g1.f S'
    · cases hF
  · cases hF
/-! name = [.. for ..] -/
theorem SR.mut {K : PySem.W.Frag} {φ : Nat → Option Addr} {Hf0 H0 Hf H : Hp} {ρ : Env} {σ : St} {i : Nat} {xs ys : List D} {ws : List V} (S : SR K φ Hf0 H0 O ρ σ Hf H) (hi : ρ[i]? = some (some (.lst xs))) (hO : i ∈ O) {a : Addr} (ha : σ[i]? = some (some (.ref a))) (r : RpAll K φ Hf ys ws) :
    SR K φ Hf0 H0 O (ρ.set i (some (.lst ys))) σ Hf (upd H a (.lst ws)) := by
  obtain ⟨b, xs', vs, e1, e2, e3, e4, e5, r0⟩ := S.own i _ hi hO
  rw [ha] at e2; cases e2
  have hil : i < ρ.length := (List.getElem?_eq_some_iff.mp hi).1
  have back : ∀ {j d}, (ρ.set i (some (.lst ys)))[j]? = some (some d) → j ≠ i → ρ[j]? = some (some d) := fun {j d} h hn => by rw [List.getElem?_set_ne (Ne.symm hn)] at h; exact h
  have some' : ∀ {j d}, (ρ.set i (some (.lst ys)))[j]? = some (some d) → ∃ d', ρ[j]? = some (some d') := fun {j d} h => by
    by_cases hj : j = i
    · subst hj; exact ⟨_, hi⟩
    · exact ⟨d, back h hj⟩
  refine ⟨by rw [List.length_set]; exact S.len, fun c o e => ?_, S.gf, fun c o e => ?_, S.gn, fun j d hj hn => ?_, fun j d hj hm => ?_, fun j k d e c hj hk mj mk hne q => ?_⟩
  · rw [upd_ne (ne_of_none e e4)]; exact S.sub _ _ e
  · rw [upd_ne (ne_of_none e e5)]; exact S.gh _ _ e
  · have hji : j ≠ i := fun z => hn (z ▸ hO)
    exact S.val j d (back hj hji) hn
  · by_cases hji : j = i
    · subst hji
      rw [List.getElem?_set_self hil] at hj; cases hj
      exact ⟨a, ys, ws, rfl, ha, upd_same, e4, e5, r⟩
    · obtain ⟨c, zs, us, q1, q2, q3, q4, q5, q6⟩ := S.own j d (back hj hji) hm
      have hca : c ≠ a := by
        rintro rfl
        exact S.ne i j _ d c hi (back hj hji) hO hm (Ne.symm hji) ha q2
      exact ⟨c, zs, us, q1, q2, by rw [upd_ne hca]; exact q3, q4, q5, q6⟩
  · obtain ⟨d1, z1⟩ := some' hj
    obtain ⟨d2, z2⟩ := some' hk
    exact S.ne j k d1 d2 c z1 z2 mj mk hne q
theorem fs_mut {i : Nat} {x : Str} {name : Str} {bid : String} {xpos apos cpos : Pos} {r : V → List V → Hp → VK → Prop} {f : List D → List D → Option (List D)} (hN : X.N[i]? = some x) (hv : Vis X.env.scope x) (hO : O.contains i = true)
    (slot : Slot "list" name bid) (hty : typeOf (.builtin bid) = pure (.type "method_descriptor")) (hm : MtR X bid r)
    (hr : ∀ (φ : Nat → Option Addr) (Hf H : Hp) (a : Addr) (xs ds ys : List D) (vs us : List V) (Q : VK), Same Hf H → H a = some (.lst vs) → RpAll X.K φ Hf xs vs → RpAll X.K φ Hf ds us → f xs ds = some ys → (∀ z ws, RpAll X.K φ Hf ys ws → Q z (upd H a (.lst ws))) → r (.ref a) us H Q)
    (ha : FA X O (e :: es) Fs) (hd : (x == ("__debug__" : Str)) = false := by decide +kernel) (hcd : (x == ("__classdict__" : Str)) = false := by decide +kernel)
    (hbase : attributeBase (.Name x xpos) name X.env (eval (.Name x xpos) X.env) = eval (.Name x xpos) X.env := by rfl)
    (hfew : ((backTo cpos (starEach (e :: es) X.env)).all (fun x => !x.1) && (backToKw cpos (keywordEach [] X.env)).all (fun x => x.1.isSome)
      && decide ((e :: es).length + ([] : List Keyword).length + (if ([] : List Keyword).isEmpty then 0 else 1) < 30)) = true := by rfl)
    (hsx : swapsWith (.Call (.Attribute (.Name x xpos) name apos) (e :: es) [] cpos) none pos.line X.env = pure false := by rfl) (hline : (apos.endLine == cpos.line) = true := by rfl) (hs : starEach (e :: es) X.env = (false, eval e X.env) :: starEach es X.env := by rfl) (hplain : (backTo cpos (starEach es X.env)).any (·.1) = false := by rfl) :
    FS X fr L O O (.Expr (.Call (.Attribute (.Name x xpos) name apos) (e :: es) [] cpos) pos) (sMut i f Fs) := fun φ Hf0 H0 ρ σ Hf H out Dn S hF P => by
  unfold sMut at hF
  split at hF
  · rename_i ds hds
    split at hF
    · rename_i xs hxs
      split at hF
      · rename_i ys hys
        cases hF
        have hq : ρ[i]? = some (some (.lst xs)) := by
          unfold eVar at hxs
          split at hxs
          · rename_i d' h; cases hxs; exact h
          · cases hxs
        have hO' : i ∈ O := by simpa using hO
        obtain ⟨a, xs', vs, e1, e2, e3, e4, e5, r0⟩ := S.own i _ hq hO'
        cases e1
        refine toS (ps_expr (pe_bm PySem.F.plainAttrs_list slot hty hm (pe_var hN hv hd hcd) paW hbase hfew hline hs hplain) hsx) ?_
        refine ⟨_, e2, .inl ⟨rfl, vs, .inl (.inl e3)⟩, ?_⟩
        refine ha φ Hf0 H0 ρ σ Hf H ds _ S hds fun us Hf1 H1 g1 r1 => ?_
        refine hr φ Hf1 H1 a xs ds ys vs us _ g1.s (g1.h _ _ e3) (r0.mono g1.f) r1 hys fun z ws rw' => ?_
        exact P σ Hf1 _ g1.f ((S.gr g1).mut hq hO' e2 rw')
      · cases hF
    · cases hF
  · cases hF
def appendF : List D → List D → Option (List D) := fun xs ds => match ds with | [d] => if xs.length < sizeLine then some (xs ++ [d]) else none | _ => none
theorem r_append {K : PySem.W.Frag} : ∀ (φ : Nat → Option Addr) (Hf H : Hp) (a : Addr) (xs ds ys : List D) (vs us : List V) (Q : VK), Same Hf H → H a = some (.lst vs) → RpAll K φ Hf xs vs → RpAll K φ Hf ds us → appendF xs ds = some ys → (∀ z ws, RpAll K φ Hf ys ws → Q z (upd H a (.lst ws))) → rAppend (.ref a) us H Q :=
  fun φ Hf H a xs ds ys vs us Q s h r q e k => by
    unfold appendF at e
    split at e
    · split at e
      · rename_i hl
        cases e
        cases q with
        | cons q t =>
          cases t
          exact ⟨a, vs, _, rfl, rfl, h, by rw [← r.length]; exact hl, k _ _ (r.append (.one q))⟩
      · cases e
    · cases e
def insertF : List D → List D → Option (List D) := fun xs ds => match ds with | [.int i, d] => if xs.length < sizeLine ∧ 0 ≤ i ∧ i < 2 ^ 63 then some (xs.take i.toNat ++ [d] ++ xs.drop i.toNat) else none | _ => none
def popAtF : List D → List D → Option (List D) := fun xs ds => match ds with | [.int i] => if -(2 ^ 63) ≤ i ∧ i < 2 ^ 63 then (match ixN xs.length i with | some k => some (xs.eraseIdx k) | none => none) else none | _ => none
def sPut (i : Nat) (Fi F : Env → Option D) : Env → Option Out := fun ρ => match F ρ with
  | some d => (match Fi ρ with
    | some (.int k) => (match eVar i ρ with | some (.lst xs) => (match ixN xs.length k with | some j => some (.nx (ρ.set i (some (.lst (xs.set j d))))) | none => none) | _ => none)
    | _ => none)
  | none => none
/-! loops -/
theorem fs_for {iter : Expr} {body : List Stmt} {Fi : Env → Option (List D)} (hp : PassesOwn (model X.prog X.w) X.A X.env X.xe) (hc : X.calm = true) (hi : FI X O tg iter Fi) (hg : FG X O O1 tgs tg g) (hb : FSs X fr O O1 O body G) (hs : ∀ x, foldedSetIterable iter X.env x = pure x := by intro _; rfl) : FS X fr L O O (.For tg iter body [] pos) (sFor Fi g G) := fun φ Hf0 H0 ρ σ Hf H out Dn S hF P => by
  unfold sFor at hF
  split at hF
  · rename_i ds hds
    refine toS (ps_for hp hc piW pgW pssW hs) ?_
    refine hi φ Hf0 H0 ρ σ Hf H ds _ S hds fun J Hf1 H1 g1 itd => ?_
    refine ⟨fun i m σ2 H2 => m = ds.length - i ∧ i ≤ ds.length ∧ ∃ ρ2 Hf2, Same Hf1 Hf2 ∧ SR X.K φ Hf0 H0 O ρ2 σ2 Hf2 H2 ∧ loopF g G (ds.drop i) ρ2 = some out, ⟨ds.length, by simp, Nat.zero_le _, ρ, Hf1, Same.refl _, S.gr g1, by simpa using hF⟩, ?_⟩
    rintro i m σ2 H2 ⟨rfl, hil, ρ2, Hf2, s2, S2, hl⟩
    by_cases hlt : i < ds.length
    · right
      have hget : ds[i]? = some ds[i] := List.getElem?_eq_getElem hlt
      obtain ⟨hgo, hyld⟩ := (itd i Hf2 H2 s2 S2.sub).2 _ hget
      rw [List.drop_eq_getElem_cons hlt] at hl
      unfold loopF at hl
      split at hl
      · cases hl
      · rename_i ρ3 hρ3
        refine ⟨hgo, fun σ' H' => ∃ ρ' Hf', Same Hf1 Hf' ∧ SR X.K φ Hf0 H0 O ρ' σ' Hf' H' ∧ loopF g G (ds.drop (i + 1)) ρ' = some out, fun σ' H' ⟨ρ', Hf', a1, a2, a3⟩ => ⟨ds.length - (i + 1), by omega, rfl, hlt, ρ', Hf', a1, a2, a3⟩, fun x H3 hy => ?_⟩
        obtain ⟨Hf3, g3, r3⟩ := hyld x H3 hy
        have s3 := s2.trans g3.f
        refine hg φ Hf0 H0 ρ2 σ2 Hf3 H3 _ x ρ3 _ (S2.gr g3) r3 hρ3 fun σ4 S4 _ => ?_
        split at hl
        · rename_i ρ4 h4
          exact hb φ Hf0 H0 ρ3 σ4 Hf3 H3 _ _ S4 h4 fun σ' Hf' H' s' S' => ⟨ρ4, Hf', s3.trans s', S', hl⟩
        · rename_i ρ4 h4
          exact hb φ Hf0 H0 ρ3 σ4 Hf3 H3 _ _ S4 h4 fun σ' Hf' H' s' S' => ⟨ρ4, Hf', s3.trans s', S', hl⟩
        · rename_i ρ4 h4
          cases hl
          exact hb φ Hf0 H0 ρ3 σ4 Hf3 H3 _ _ S4 h4 fun σ' Hf' H' s' S' => P σ' Hf' H' (g1.f.trans (s3.trans s')) S'
        · rename_i d h4
          cases hl
          exact hb φ Hf0 H0 ρ3 σ4 Hf3 H3 _ _ S4 h4 P
        · cases hl
    · left
      have hie : i = ds.length := by omega
      subst hie
      rw [List.drop_length] at hl
      cases hl
      exact ⟨(itd _ Hf2 H2 s2 S2.sub).1 (Nat.le_refl _), P σ2 Hf2 H2 (g1.f.trans s2) S2⟩
  · cases hF
end

/-! ### defs -/
def spF (K : PySem.W.Frag) (fr : Bool) (n : Nat) (m : List D → Option D) : Sp := fun vs H Q _ => ∃ (φ : Nat → Option Addr) (Hf : Hp) (ds : List D) (d : D), Same Hf H ∧ RpAll K φ Hf ds vs ∧ ds.length = n ∧ m ds = some d ∧ RtK K φ Hf H fr d Q
def envOf (N n : Nat) (ds : List D) : Env := ds.map some ++ List.replicate (N - n) none
def runD (fr : Bool) (N n : Nat) (G : Env → Option Out) (ds : List D) : Option D := match G (envOf N n ds) with
  | some (.rt d) => some d
  | some (.nx _) => if fr then none else some .non
  | _ => none
end FL
namespace FL
variable [HW]
open PySem L2

/-! ### a def that makes new things alone, called by its name -/
structure CalK (P : Program) (w : World) (K : PySem.W.Frag) (mg : Str → Option Value) (base : Heap) (k : Nat) (x : Str) (fr : Bool) (n : Nat) (m : List D → Option D) : Prop where
  ok : ∃ (f : Addr) (fd : FuncData) (ps : List Str), FnOk P w K mg base CX0 k f fd ps (spF K fr n m) ∧ mg x = some (.ref f) ∧ PySem.W.keepIn K (.ref f) = true ∧ Binds K fd ps []
abbrev DefAt (K : PySem.W.Frag) (x : Str) (st : Stmt) (a : Addr) : Prop := ∃ fd, FunD K x x (defArgs st) (defBody st) (defScope st) [] [] a fd
section
variable {P : Program} {w : World} {K : PySem.W.Frag} {mg : Str → Option Value} {base : Heap} {k : Nat} {a : Addr} {ps N : List Str} {x : Str} {st : Stmt} {m : List D → Option D} {G : Env → Option Out}
theorem RpAll.val {φ : Nat → Option Addr} {H : Hp} {ds : List D} {vs : List V} (r : RpAll K φ H ds vs) (n : Nat) : ∀ (i : Nat) (d : D), (ds.map some ++ List.replicate n none)[i]? = some (some d) → ∃ v, (vs.map some ++ List.replicate n none)[i]? = some (some v) ∧ Rp K φ H d v := fun i d e => by
  by_cases hi : i < ds.length
  · rw [List.getElem?_append_left (by simpa using hi)] at e
    rw [List.getElem?_append_left (by rw [List.length_map, ← r.length]; exact hi)]
    rw [List.getElem?_map] at e ⊢
    cases hq : ds[i]? with
    | none => rw [hq] at e; cases e
    | some d' =>
      rw [hq] at e; cases e
      obtain ⟨v, h1, h2⟩ := r.get hq
      exact ⟨v, by rw [h1]; rfl, h2⟩
  · rw [List.getElem?_append_right (by simpa using hi), List.length_map, List.getElem?_replicate] at e
    split at e <;> cases e
theorem fnOk_of {fd : FuncData} {N' n : Nat} (F : FunD K x x (defArgs st) (defBody st) (defScope st) [] [] a fd) (S : FnScope N ps (defScope st)) (hN : N' = N.length) (hn : n = ps.length) {fr : Bool} (O' : List Nat)
    (hb : ∀ (cdv : Value) (A : Around) (outer : List PySem.Env) (s : Shared) (H : Hp) (E : XK), Room k (A.deeper (PyProof.Rows.envOfC x (defScope st) s.heap.objs.size a cdv)) →
      FSs (cxOf CX0 P w K mg base N x (defScope st) a cdv A outer s H E).nox fr [] [] O' (defBody st) G) : FnOk P w K mg base CX0 (k + 1) a fd ps (spF K fr n (runD fr N' n G)) := by
  subst hN hn
  refine FunD.ok F S (fun vs H Q E h => ?_) (fun cdv A outer s H vs Q E hr h => ?_)
  · obtain ⟨φ, Hf, ds, d, _, r, hl, _⟩ := h
    rw [← r.length]; exact hl
  · obtain ⟨φ, Hf, ds, d, hs, r, hl, hm, hk⟩ := h
    refine ⟨_, PSs.nox pssW, ?_⟩
    have hvl : vs.length = ps.length := by rw [← r.length]; exact hl
    unfold L2.start
    rw [hvl]
    unfold runD envOf at hm
    have S0 : SR K φ Hf H [] (ds.map some ++ List.replicate (N.length - ps.length) none) (vs.map some ++ List.replicate (N.length - ps.length) none) Hf H :=
      ⟨by simp [r.length], hs, Same.refl _, Same.refl _, fun _ _ _ z => z, fun i d e _ => r.val _ i d e, fun i d _ m => absurd m (by simp), fun i j _ _ _ _ _ m => absurd m (by simp)⟩
    split at hm
    · rename_i d' h'
      cases hm
      exact hb cdv A outer s H E hr φ Hf H _ _ Hf H _ _ S0 h' hk
    · rename_i ρ' h'
      cases fr with
      | false =>
        cases hm
        exact hb cdv A outer s H E hr φ Hf H _ _ Hf H _ _ S0 h' fun σ' Hf' H' s' S' => hk _ Hf' H' S'.from0 .non
      | true => cases hm
    · cases hm
theorem calK_of {N' n : Nat} (Dd : DefAt K x st a) (g : mg x = some (.ref a)) (S : FnScope N ps (defScope st)) (hN : N' = N.length) (hn : n = ps.length)
    (hbind : ∀ (kV doc pm : Value) (an : Option Addr) (cdv ct : Value) (us : List Value), us.length = ps.length → bindArgs (PySem.W.fnOf x x (defArgs st) (defBody st) (defScope st) .none kV doc pm an cdv ct) ⟨us, []⟩ = pure (ps.zip us))
    {fr : Bool} (O' : List Nat)
    (hb : ∀ (cdv : Value) (A : Around) (outer : List PySem.Env) (s : Shared) (H : Hp) (E : XK), Room k (A.deeper (PyProof.Rows.envOfC x (defScope st) s.heap.objs.size a cdv)) →
      FSs (cxOf CX0 P w K mg base N x (defScope st) a cdv A outer s H E).nox fr [] [] O' (defBody st) G) : CalK P w K mg base (k + 1) x fr n (runD fr N' n G) := by
  obtain ⟨fd, F⟩ := Dd
  exact ⟨a, fd, ps, fnOk_of F S hN hn O' hb, g, F.kp, FunD.bindsN F hbind⟩
theorem calK_zero {fr : Bool} {n : Nat} (Dd : DefAt K x st a) (g : mg x = some (.ref a)) (hbind : ∀ (kV doc pm : Value) (an : Option Addr) (cdv ct : Value) (us : List Value), us.length = ps.length → bindArgs (PySem.W.fnOf x x (defArgs st) (defBody st) (defScope st) .none kV doc pm an cdv ct) ⟨us, []⟩ = pure (ps.zip us)) : CalK P w K mg base k x fr n (fun _ => none) := by
  obtain ⟨fd, F⟩ := Dd
  exact ⟨a, fd, ps, ⟨fun vs H Q E ⟨_, _, _, _, _, _, _, h, _⟩ => (nomatch h), fun A outer s H args us vs Q E _ _ _ _ ⟨_, _, _, _, _, _, _, h, _⟩ => (nomatch h)⟩, g, F.kp, FunD.bindsN F hbind⟩
theorem CalK.mono {j : Nat} {fr : Bool} {n : Nat} (c : CalK P w K mg base j x fr n m) (h : j ≤ k) : CalK P w K mg base k x fr n m := by
  obtain ⟨f, fd, ps, F, q⟩ := c.ok
  exact ⟨f, fd, ps, F.mono h, q⟩
end
section
variable {X : Cx} {O : List Nat} {es : List Expr} {e : Expr} {x : Str} {p pos : Pos} {Fs : Env → Option (List D)} {k j : Nat} {n : Nat} {m : List D → Option D}
def mL (n : Nat) (m : List D → Option D) : List D → Option D := fun ds => if ds.length = n then m ds else none
theorem fe_call (c : CalK X.prog X.w X.K X.mg X.base j x false n m) (hr : Room k X.A) (hk : j ≤ k) (hg : Gl X x) (ha : FA X O (e :: es) Fs) (hdb : (x == ("__debug__" : Str)) = false := by decide +kernel) (he : starEach (e :: es) X.env = (false, eval e X.env) :: starEach es X.env := by rfl)
    (hpl : (backTo pos (starEach es X.env)).any (·.1) = false := by rfl) : FE X O (.Call (.Name x p) (e :: es) [] pos) (eL (mL n m) Fs) := by
  obtain ⟨f, fd, ps, F, hm, hkp, hb⟩ := c.ok
  intro φ Hf0 H0 ρ σ Hf H d Q S hF k'
  obtain ⟨ds, h1, h2⟩ := eL_some hF
  unfold mL at h2
  split at h2
  · rename_i hl
    refine toE (pe_call F (hr.mono hk) hg hm hkp hb .nil pass0 paW hdb he hpl) ?_
    refine ha φ Hf0 H0 ρ σ Hf H ds _ S h1 fun vs Hf1 H1 g1 r1 => ?_
    refine ⟨φ, Hf1, ds, d, g1.s, by rw [List.append_nil]; exact r1, hl, h2, fun v Hf2 H2 g2 r2 => k' v Hf2 H2 (g1.trans g2) r2⟩
  · cases h2
theorem fn_call (c : CalK X.prog X.w X.K X.mg X.base j x true n m) (hr : Room k X.A) (hk : j ≤ k) (hg : Gl X x) (ha : FA X O (e :: es) Fs) (hdb : (x == ("__debug__" : Str)) = false := by decide +kernel) (he : starEach (e :: es) X.env = (false, eval e X.env) :: starEach es X.env := by rfl)
    (hpl : (backTo pos (starEach es X.env)).any (·.1) = false := by rfl) : FN X O (.Call (.Name x p) (e :: es) [] pos) (eL (mL n m) Fs) := by
  obtain ⟨f, fd, ps, F, hm, hkp, hb⟩ := c.ok
  intro φ Hf0 H0 ρ σ Hf H d Q S hF k'
  obtain ⟨ds, h1, h2⟩ := eL_some hF
  unfold mL at h2
  split at h2
  · rename_i hl
    refine toE (pe_call F (hr.mono hk) hg hm hkp hb .nil pass0 paW hdb he hpl) ?_
    refine ha φ Hf0 H0 ρ σ Hf H ds _ S h1 fun vs Hf1 H1 g1 r1 => ?_
    refine ⟨φ, Hf1, ds, d, g1.s, by rw [List.append_nil]; exact r1, hl, h2, fun a xs us Hf2 H2 hd g2 q1 q2 q3 r2 => k' a xs us Hf2 H2 hd (g1.trans g2) (g1.h.free q1) q2 q3 r2⟩
  · cases h2
theorem u64 {A : Around} (h : Room k A) : A.units + 64 < cLine := h.units
theorem u65 {A : Around} (h : Room k A) : A.units + 65 < cLine := by have := h.un; omega
end

/-! ### constants of the module -/
mutual
def cB (K : PySem.W.Frag) : D → Value → Bool
  | .non, .none => true
  | .bl b, .bool c => b == c
  | .int i, .int j _ => decide (i = j)
  | .str x, .str y _ => decide (x = y)
  | .tup ds, .ref a => (match K.lookup a with
    | some ⟨.type c, _, .seq its _, _⟩ => decide (c = "tuple") && (decide (its.size ≤ sizeLine) && cBs K ds its.toList)
    | _ => false)
  | .klst ds, .ref a => (match K.lookup a with
    | some ⟨.type c, none, .seq its _, _⟩ => decide (c = "list") && (decide (its.size ≤ sizeLine) && cBs K ds its.toList)
    | _ => false)
  | _, _ => false
def cBs (K : PySem.W.Frag) : List D → List Value → Bool
  | [], [] => true
  | d :: ds, u :: us => cB K d u && cBs K ds us
  | _, _ => false
end
mutual
theorem cB_ok {K : PySem.W.Frag} : ∀ {d : D} {u : Value}, cB K d u = true → ∃ v, RelV v u ∧ RpK K d v
  | .non, u, h => by
    cases u <;> simp only [cB] at h <;> try (cases h)
    exact ⟨.non, rfl, fun _ _ => .non⟩
  | .bl b, u, h => by
    cases u <;> simp only [cB] at h <;> try (cases h)
    rename_i c
    have : b = c := by simpa using h
    subst this
    exact ⟨.bl b, rfl, fun _ _ => .bl b⟩
  | .int i, u, h => by
    cases u <;> simp only [cB] at h <;> try (cases h)
    rename_i j t
    have : i = j := of_decide_eq_true h
    subst this
    exact ⟨.int i, ⟨t, rfl⟩, fun _ _ => .int i⟩
  | .str x, u, h => by
    cases u <;> simp only [cB] at h <;> try (cases h)
    rename_i y t
    have : x = y := of_decide_eq_true h
    subst this
    exact ⟨.str x, ⟨t, rfl⟩, fun _ _ => .str x⟩
  | .tup ds, u, h => by
    cases u <;> simp only [cB] at h <;> try (cases h)
    rename_i a
    split at h
    · rename_i c od its n sl hq
      rw [Bool.and_eq_true, Bool.and_eq_true] at h
      obtain ⟨h1, h2, h3⟩ := h
      obtain ⟨vs, r1, r2⟩ := cBs_ok h3
      exact ⟨.ref a, rfl, fun φ H => .tup (.inr ⟨_, its, n, hq, congrArg Value.type (of_decide_eq_true h1), rfl, of_decide_eq_true h2, r1⟩) (r2 φ H)⟩
    · cases h
  | .klst ds, u, h => by
    cases u <;> simp only [cB] at h <;> try (cases h)
    rename_i a
    split at h
    · rename_i c its n sl hq
      rw [Bool.and_eq_true, Bool.and_eq_true] at h
      obtain ⟨h1, h2, h3⟩ := h
      obtain ⟨vs, r1, r2⟩ := cBs_ok h3
      exact ⟨.ref a, rfl, fun φ H => .klst (.inr ⟨_, its, n, hq, congrArg Value.type (of_decide_eq_true h1), rfl, rfl, of_decide_eq_true h2, r1⟩) (r2 φ H)⟩
    · cases h
  | .lst ds, u, h => by cases u <;> simp only [cB] at h <;> cases h
  | .obj i, u, h => by cases u <;> simp only [cB] at h <;> cases h
  | .ins c fs ds, u, h => by cases u <;> simp only [cB] at h <;> cases h
  | .dct fs ds, u, h => by cases u <;> simp only [cB] at h <;> cases h
  | .dkt fz fs ds, u, h => by cases u <;> simp only [cB] at h <;> cases h
theorem cBs_ok {K : PySem.W.Frag} : ∀ {ds : List D} {us : List Value}, cBs K ds us = true → ∃ vs, Vals vs us ∧ ∀ φ H, RpAll K φ H ds vs
  | [], [], _ => ⟨[], .nil, fun _ _ => .nil⟩
  | d :: ds, u :: us, h => by
    simp only [cBs, Bool.and_eq_true] at h
    obtain ⟨v, r1, r2⟩ := cB_ok h.1
    obtain ⟨vs, q1, q2⟩ := cBs_ok h.2
    exact ⟨v :: vs, .cons r1 q1, fun φ H => .cons (r2 φ H) (q2 φ H)⟩
  | [], _ :: _, h => by simp [cBs] at h
  | _ :: _, [], h => by simp [cBs] at h
end
def conB (K : PySem.W.Frag) (x : Str) (d : D) : Bool := match PySem.W.nsIn K mainGlobals x with
  | some (some u) => cB K d u
  | _ => false
def ConAt (K : PySem.W.Frag) (mg : Str → Option Value) (x : Str) (d : D) : Prop := ∃ u v, mg x = some u ∧ RelV v u ∧ RpK K d v
/-! ### the head's facts, and one more Bool -/
def obsF (n : Nat) (fa : List He.Fa) (fn : List He.DefD) (ex : PySem.W.Frag → Bool) (g : Addr → Option Obj) : He.AlD × Bool := (He.obsD fa fn (He.frG g (He.asD g n)), ex (He.frG g (He.asD g n)))
def SaysF (fa : List He.Fa) (fn : List He.DefD) (ex : PySem.W.Frag → Bool) (K : PySem.W.Frag) : Prop := He.SaysD fa fn K ∧ ex K = true
def hookF (n : Nat) (fa : List He.Fa) (fn : List He.DefD) (ex : PySem.W.Frag → Bool) : PySem.W.Hook where
  α := He.AlD × Bool
  obs := fun s => obsF n fa fn ex s.heap.get?
  val := fun _ => (He.valD fn, true)
  says := fun _ h => ∃ K : PySem.W.Frag, K.In h ∧ SaysF fa fn ex K
  of := fun _ _ e => ⟨_, He.frG_in, congrArg (fun z : He.AlD × Bool => z.1) e, congrArg (fun z : He.AlD × Bool => z.2) e⟩
  keeps := fun _ _ _ ⟨K, hK, c⟩ k => ⟨K, PySem.W.Frag.In.keeps hK k, c⟩
theorem defAt_of {K : PySem.W.Frag} {fa : List He.Fa} {fn : List He.DefD} (c : He.SaysD fa fn K) {x : Str} {st : Stmt} (i : Nat) (h : fn[i]? = some ⟨(x, none), x, x, defArgs st, defBody st, defScope st, [], []⟩) : DefAt K x st (He.ga K x) := c.def_ i h

/-! ### the law's end -/
end FL
namespace FL
variable [HW]
open PySem L2
def negD : D → Option D | .int i => some (.int (-i)) | _ => none
section
variable {X : Cx} {O : List Nat} {a b e : Expr} {pos : Pos} {F G : Env → Option D}
end
end FL
namespace FL
variable [HW]
open PySem L2
/-! ### names that nobody reads any more -/
def sForget (vs : List Nat) (G : Env → Option Out) : Env → Option Out := fun ρ => G (wipeE ρ vs)
theorem SR.forget {K : PySem.W.Frag} {φ : Nat → Option Addr} {Hf0 H0 Hf H : Hp} {O : List Nat} {ρ : Env} {σ : St} (S : SR K φ Hf0 H0 O ρ σ Hf H) (vs : List Nat) : SR K φ Hf0 H0 O (wipeE ρ vs) σ Hf H :=
  ⟨by rw [wipeE_len]; exact S.len, S.sub, S.gf, S.gh, S.gn, fun i d e n => S.val i d (wipeE_some e).1 n, fun i d e m => S.own i d (wipeE_some e).1 m, fun i j d e a h1 h2 m1 m2 hne q1 => S.ne i j d e a (wipeE_some h1).1 (wipeE_some h2).1 m1 m2 hne q1⟩
theorem fss_forget {X : Cx} {fr : Bool} {L O O' : List Nat} {sts : List Stmt} {G : Env → Option Out} (vs : List Nat) (h : FSs X fr L O O' sts G) : FSs X fr L O O' sts (sForget vs G) := fun φ Hf0 H0 ρ σ Hf H out Dn S hF P =>
  h φ Hf0 H0 (wipeE ρ vs) σ Hf H out Dn (S.forget vs) hF P
end FL
namespace FL
variable [HW]
open PySem L2 PyProof.Rows
/-! ### xs.extend(a tuple) -/
section
open PySem.SeqAt PySem.AutoSeq1 PySem.MeetsSeq2 PySem.MeetsSeq3 PySem.MeetsSeq
end
section
variable {X : Cx} {O : List Nat}
def rExtT (K : PySem.W.Frag) : V → List V → Hp → VK → Prop := fun v vs H Q => ∃ a t xs zs, v = .ref a ∧ vs = [.ref t] ∧ H a = some (.lst xs) ∧ SqT K H t zs ∧ xs.length + zs.length ≤ sizeLine ∧ Q .non (upd H a (.lst (xs ++ zs)))
def extendF : List D → List D → Option (List D) := fun xs ds => match ds with | [.tup zs] => if xs.length + zs.length ≤ sizeLine then some (xs ++ zs) else none | _ => none
end
end FL
namespace FL
variable [HW]
open PySem
/-! ### a mirror run by hand, a statement at a time -/
section
variable {F : Env → Option D} {G A B : Env → Option Out} {i : Nat} {ρ ρ' : Env} {C : Env → Option Bool} {d : D}
theorem runD_rt {fr : Bool} {N n : Nat} {ds : List D} (h : G (envOf N n ds) = some (.rt d)) : runD fr N n G ds = some d := by
  unfold runD
  rw [h]
theorem seq_set {o : Option Out} (h : F ρ = some d) (k : G (ρ.set i (some d)) = o) : sSeq (sSet i F) G ρ = o := by
  unfold sSeq sSet
  rw [h]; exact k
theorem seq_t {o : Option Out} (h : C ρ = some true) (k : sSeq A G ρ = o) : sSeq (sIf C A B) G ρ = o := by
  unfold sSeq sIf at *
  rw [h]; exact k
theorem seq_f {o : Option Out} (h : C ρ = some false) (k : sSeq B G ρ = o) : sSeq (sIf C A B) G ρ = o := by
  unfold sSeq sIf at *
  rw [h]; exact k
theorem seq_if {o : Option Out} {b : Bool} (h : C ρ = some b) (k1 : b = true → sSeq A G ρ = o) (k2 : b = false → sSeq B G ρ = o) : sSeq (sIf C A B) G ρ = o := by
  cases b with
  | true => exact seq_t h (k1 rfl)
  | false => exact seq_f h (k2 rfl)
theorem seq_as {o : Option Out} (k : sSeq A (sSeq B G) ρ = o) : sSeq (sSeq A B) G ρ = o := by
  unfold sSeq at *
  cases h : A ρ with
  | none => rw [h] at k; simpa using k
  | some z => cases z <;> (rw [h] at k; simpa using k)
theorem seq_nil {o : Option Out} (k : G ρ = o) : sSeq sNil G ρ = o := k
theorem seq_fg {vs : List Nat} {o : Option Out} (k : G (wipeE ρ vs) = o) : sForget vs G ρ = o := k
theorem seq_ret (h : F ρ = some d) : sSeq (sRet F) G ρ = some (.rt d) := by
  unfold sSeq sRet
  rw [h]
theorem seq_for {Fi : Env → Option (List D)} {g : D → Env → Option Env} {ds : List D} {o : Option Out} (h : Fi ρ = some ds) (k : loopF g B ds ρ = some (.nx ρ')) (k2 : G ρ' = o) : sSeq (sFor Fi g B) G ρ = o := by
  unfold sSeq sFor
  rw [h]
  simp only [k]
  exact k2
theorem not_val {C : Env → Option Bool} {ρ : Env} {b : Bool} (h : C ρ = some b) : tNot C ρ = some (!b) := by
  unfold tNot
  rw [h]
theorem loop_nx {g : D → Env → Option Env} {I : Nat → Env → Prop} : ∀ (ds : List D) (j : Nat) (ρ : Env), (∀ (i : Nat) (ρ : Env) (d : D), I (j + i) ρ → ds[i]? = some d → ∃ ρ1 ρ2, g d ρ = some ρ1 ∧ B ρ1 = some (.nx ρ2) ∧ I (j + i + 1) ρ2) → I j ρ → ∃ ρ', loopF g B ds ρ = some (.nx ρ') ∧ I (j + ds.length) ρ'
  | [], j, ρ, _, h => ⟨ρ, rfl, h⟩
  | d :: ds, j, ρ, hs, h => by
    obtain ⟨ρ1, ρ2, e1, e2, h2⟩ := hs 0 ρ d h rfl
    obtain ⟨ρ', e3, h3⟩ := loop_nx ds (j + 1) ρ2 (fun i ρ d hi hd => by
      have e : j + 1 + i = j + (i + 1) := by omega
      rw [e] at hi ⊢
      exact hs (i + 1) ρ d hi (by simpa using hd)) h2
    refine ⟨ρ', ?_, by rw [List.length_cons, show j + (ds.length + 1) = j + 1 + ds.length by omega]; exact h3⟩
    unfold loopF
    rw [e1]
    simp only [e2]
    exact e3
theorem rngD_get {lo : Int} {n i : Nat} {d : D} (h : (rngD lo n)[i]? = some d) : i < n ∧ d = .int (lo + (i : Int)) := by
  unfold rngD at h
  rw [List.getElem?_map] at h
  cases hq : (List.range n)[i]? with
  | none => rw [hq] at h; cases h
  | some c =>
    rw [hq] at h; cases h
    obtain ⟨h1, h2⟩ := List.getElem?_eq_some_iff.mp hq
    have h3 : i < n := by simpa using h1
    have h4 : c = i := by simpa using h2.symm
    subst h4
    exact ⟨h3, rfl⟩
theorem rngD_len {lo : Int} {n : Nat} : (rngD lo n).length = n := by simp [rngD]
theorem atI_nat {α : Type} {xs : List α} {k : Nat} {x : α} (h : xs[k]? = some x) : L2.atI xs (k : Int) = some x := by
  have hk := (List.getElem?_eq_some_iff.mp h).1
  unfold L2.atI L2.ixN
  rw [if_pos (by omega), if_pos (by omega)]
  simpa using h
end

theorem eL_val {f : List D → Option D} {Fs : Env → Option (List D)} {ρ : Env} {ds : List D} {o : Option D} (h : Fs ρ = some ds) (k : f ds = o) : eL f Fs ρ = o := by
  unfold eL
  rw [h]; exact k
theorem e2_val {f : D → D → Option D} {F G : Env → Option D} {ρ : Env} {x y : D} {o : Option D} (h1 : F ρ = some x) (h2 : G ρ = some y) (k : f x y = o) : e2 f F G ρ = o := by
  unfold e2
  rw [h1, h2]; exact k
theorem aCons_val {F : Env → Option D} {G : Env → Option (List D)} {ρ : Env} {d : D} {ds : List D} (h1 : F ρ = some d) (h2 : G ρ = some ds) : aCons F G ρ = some (d :: ds) := by
  unfold aCons
  rw [h1, h2]
theorem mL_val {n : Nat} {m : List D → Option D} {ds : List D} {o : Option D} (h : ds.length = n) (k : m ds = o) : mL n m ds = o := by
  unfold mL
  rw [if_pos h]; exact k
theorem tB_val {f : D → Option Bool} {F : Env → Option D} {ρ : Env} {x : D} {o : Option Bool} (h1 : F ρ = some x) (k : f x = o) : tB f F ρ = o := by
  unfold tB
  rw [h1]; exact k
/-! ### are two trees the same: the law's own -/
def isSameG (r : List D → Option D) : FL.Env → Option Out :=
    (sSeq (sIf (tOr (tB truD (e1 (isiD "tuple") (eVar 1))) (tB truD (e1 (isiD "list") (eVar 1))))
      (sSeq (sIf (tAnd (tB truD (e1 (isiD "tuple") (eVar 1))) (tNot (tB truD (e1 (isiD "tuple") (eVar 0)))))
      (sSeq (sRet (eC (.bl false)))
    sNil)
      sNil)
    (sSeq (sIf (tAnd (tB truD (e1 (isiD "list") (eVar 1))) (tNot (tB truD (e1 (isiD "list") (eVar 0)))))
      (sSeq (sRet (eC (.bl false)))
    sNil)
      sNil)
    (sSeq (sIf (tB blD (e2 neD (eL lenD (aCons (eVar 0) aNil)) (eL lenD (aCons (eVar 1) aNil))))
      (sSeq (sRet (eC (.bl false)))
    sNil)
      sNil)
    (sSeq (sFor (iRng1 (aCons (eL lenD (aCons (eVar 1) aNil)) aNil)) (gSet 2)
      (sSeq (sIf (tNot (tB truD (eL (mL 2 r) (aCons (e2 ixD (eVar 0) (eVar 2)) (aCons (e2 ixD (eVar 1) (eVar 2)) aNil)))))
      (sSeq (sRet (eC (.bl false)))
    sNil)
      sNil)
    sNil))
    (sSeq (sRet (eC (.bl true)))
    sNil)))))
      sNil)
    (sForget [2] (sSeq (sIf (tB blD (e2 isD (eVar 1) (eC .non)))
      (sSeq (sRet (e2 isD (eVar 0) (eC .non)))
    sNil)
      sNil)
    (sSeq (sIf (tB truD (e1 (isiD "bool") (eVar 1)))
      (sSeq (sRet (eAnd (e1 (isiD "bool") (eVar 0)) (e2 eqD (eVar 0) (eVar 1))))
    sNil)
      sNil)
    (sSeq (sIf (tB truD (e1 (isiD "int") (eVar 1)))
      (sSeq (sRet (eAnd (e1 (isiD "int") (eVar 0)) (eAnd (e1 notD (e1 (isiD "bool") (eVar 0))) (e2 eqD (eVar 0) (eVar 1)))))
    sNil)
      sNil)
    (sSeq (sRet (eAnd (e1 (isiD "str") (eVar 0)) (e2 eqD (eVar 0) (eVar 1))))
    sNil))))))
def isSame : Nat → List D → Option D
  | 0 => fun _ => none
  | n + 1 => runD false 3 2 (isSameG (isSame n))
def okS : Nat → D → Bool
  | 0, _ => false
  | _ + 1, .obj _ => false
  | _ + 1, .ins _ _ _ => false
  | _ + 1, .dct _ _ => false
  | _ + 1, .dkt _ _ _ => false
  | _ + 1, .xtp _ => false
  | n + 1, .tup xs => decide (xs.length < 1000000) && xs.all (okS n)
  | n + 1, .lst xs => decide (xs.length < 1000000) && xs.all (okS n)
  | n + 1, .klst xs => decide (xs.length < 1000000) && xs.all (okS n)
  | _ + 1, _ => true
theorem sEq_self (x : Str) : sEq x x = true := by simp [sEq]
theorem isSame_seq {n : Nat} {d : D} {xs : List D} (hx : seqD d = some xs) (hlen : xs.length < 1000000) (ih : ∀ x ∈ xs, isSame n [x, x] = some (.bl true))
    (c1 : tOr (tB truD (e1 (isiD "tuple") (eVar 1))) (tB truD (e1 (isiD "list") (eVar 1))) [some d, some d, none] = some true)
    (c2 : tAnd (tB truD (e1 (isiD "tuple") (eVar 1))) (tNot (tB truD (e1 (isiD "tuple") (eVar 0)))) [some d, some d, none] = some false)
    (c3 : tAnd (tB truD (e1 (isiD "list") (eVar 1))) (tNot (tB truD (e1 (isiD "list") (eVar 0)))) [some d, some d, none] = some false)
    (hix : ∀ k : Nat, ixD d (.int (k : Int)) = L2.atI xs (k : Int)) : isSame (n + 1) [d, d] = some (.bl true) := by
  have hl : lenD [d] = some (.int xs.length) := by unfold lenD; simp [hx]
  refine runD_rt ?_
  show isSameG (isSame n) [some d, some d, none] = _
  unfold isSameG
  refine seq_t c1 (seq_as (seq_f c2 (seq_nil (seq_as (seq_f c3 (seq_nil (seq_as (seq_f ?_ (seq_nil (seq_as ?_)))))))))) 
  · simp [tB, e2, eL, aCons, aNil, eVar, hl, neD, eqB, scEq, blD]
  · have hr : iRng1 (aCons (eL lenD (aCons (eVar 1) aNil)) aNil) [some d, some d, none] = some (rngD 0 xs.length) := by
      have hb : -(2 ^ 62 : Int) ≤ (xs.length : Int) ∧ (xs.length : Int) < 2 ^ 62 := by omega
      simp [iRng1, aCons, aNil, eL, eVar, hl]
      omega
    obtain ⟨ρ', e1', h'⟩ := loop_nx (g := gSet 2) (B := (sSeq (sIf (tNot (tB truD (eL (mL 2 (isSame n)) (aCons (e2 ixD (eVar 0) (eVar 2)) (aCons (e2 ixD (eVar 1) (eVar 2)) aNil))))) (sSeq (sRet (eC (.bl false))) sNil) sNil) sNil))
      (I := fun _ ρ => ∃ z, ρ = [some d, some d, z]) (rngD 0 xs.length) 0 [some d, some d, none] (fun i ρ x hI hd => by
        obtain ⟨z, rfl⟩ := hI
        obtain ⟨hi, rfl⟩ := rngD_get hd
        have hg : xs[i]? = some xs[i] := List.getElem?_eq_getElem hi
        have ha := atI_nat hg
        refine ⟨_, [some d, some d, some (.int (0 + (i : Int)))], rfl, ?_, _, rfl⟩
        have ht : tNot (tB truD (eL (mL 2 (isSame n)) (aCons (e2 ixD (eVar 0) (eVar 2)) (aCons (e2 ixD (eVar 1) (eVar 2)) aNil)))) [some d, some d, some (.int (0 + (i : Int)))] = some false := by
          have hz : (0 + (i : Int)) = (i : Int) := by omega
          simp only [tNot, tB, eL, aCons, aNil, e2, eVar, List.getElem?_cons_zero, List.getElem?_cons_succ, hz, hix, ha, mL, List.length, Nat.zero_add, Nat.reduceAdd, ↓reduceIte, ih _ (List.getElem_mem hi), truD, Bool.not_true]
        exact seq_f ht rfl) ⟨none, rfl⟩
    obtain ⟨z, rfl⟩ := h'
    exact seq_for hr e1' (seq_as (seq_ret rfl))
theorem isSame_refl : ∀ (n : Nat) (d : D), okS n d = true → isSame n [d, d] = some (.bl true)
  | 0, _, h => by cases h
  | n + 1, .non, _ => by kernel_rfl
  | n + 1, .bl b, _ => by cases b <;> kernel_rfl
  | n + 1, .int i, _ => by
    have e : isSame (n + 1) [.int i, .int i] = some (.bl (i == i)) := by kernel_rfl
    rw [e]; simp
  | n + 1, .str x, _ => by
    have e : isSame (n + 1) [.str x, .str x] = some (.bl (sEq x x)) := by kernel_rfl
    rw [e, sEq_self]
  | n + 1, .tup xs, h => by
    have h' : xs.length < 1000000 ∧ ∀ x ∈ xs, okS n x = true := by simpa [okS] using h
    exact isSame_seq (xs := xs) rfl h'.1 (fun x hx => isSame_refl n x (h'.2 x hx)) (by kernel_rfl) (by kernel_rfl) (by kernel_rfl) (fun _ => rfl)
  | n + 1, .lst xs, h => by
    have h' : xs.length < 1000000 ∧ ∀ x ∈ xs, okS n x = true := by simpa [okS] using h
    exact isSame_seq (xs := xs) rfl h'.1 (fun x hx => isSame_refl n x (h'.2 x hx)) (by kernel_rfl) (by kernel_rfl) (by kernel_rfl) (fun _ => rfl)
  | n + 1, .klst xs, h => by
    have h' : xs.length < 1000000 ∧ ∀ x ∈ xs, okS n x = true := by simpa [okS] using h
    exact isSame_seq (xs := xs) rfl h'.1 (fun x hx => isSame_refl n x (h'.2 x hx)) (by kernel_rfl) (by kernel_rfl) (by kernel_rfl) (fun _ => rfl)
  | n + 1, .obj i, h => by cases h
  | n + 1, .ins c fs xs, h => by cases h
  | n + 1, .dct fs xs, h => by cases h
  | n + 1, .dkt fz fs xs, h => by cases h
  | n + 1, .xtp xs, h => by cases h

/-! ### the script's cells -/
def cellG : FL.Env → Option Out :=
    (sSeq (sIf (tB blD (e2 ltD (eVar 1) (eL lenD (aCons (eVar 0) aNil))))
      (sSeq (sRet (eL intD (aCons (e2 ixD (eVar 0) (eVar 1)) aNil)))
    sNil)
      sNil)
    (sForget [0, 1] (sSeq (sRet (eC (.int 0)))
    sNil)))
def cellM : List D → Option D := runD false 2 2 cellG
def scr (ns : List Int) : D := .klst (ns.map D.int)
theorem cell_eq (ns : List Int) (k : Nat) : cellM [scr ns, .int k] = some (.int (ns.getD k 0)) := by
  have hl : (ns.map D.int).length = ns.length := List.length_map ..
  by_cases h : k < ns.length
  · have h2 : (k : Int) < (ns.length : Int) := by omega
    have h3 : L2.atI (ns.map D.int) (k : Int) = some (.int (ns.getD k 0)) := atI_nat (by simp [h])
    simp [scr, cellM, runD, cellG, envOf, sSeq, sIf, tB, e2, ltD, eL, lenD, aCons, aNil, eVar, seqD, sRet, intD, ixD, blD, h2, h3]
  · have h2 : ¬ (k : Int) < (ns.length : Int) := by omega
    have h4 : ns.getD k 0 = 0 := by simp [Nat.le_of_not_lt h]
    rw [h4]
    simp [scr, cellM, runD, cellG, envOf, sSeq, sIf, tB, e2, ltD, eL, lenD, aCons, aNil, eVar, seqD, sRet, intD, ixD, blD, h2, sNil, sForget, wipeE, eC]

/-! ### a drawn standing -/
def spotG : FL.Env → Option Out :=
    (sSeq (sSet 1 (e2 modD (eL intD (aCons (eVar 0) aNil)) (eC (.int 200))))
    (sForget [0] (sSeq (sSet 2 (eL tupD (aCons (e2 modD (e2 fdivD (eVar 1) (eC (.int 2))) (eC (.int 10))) (aCons (e2 eqD (e2 modD (e2 fdivD (eVar 1) (eC (.int 20))) (eC (.int 2))) (eC (.int 1))) (aCons (e2 eqD (e2 modD (e2 fdivD (eVar 1) (eC (.int 40))) (eC (.int 2))) (eC (.int 1))) aNil)))))
    (sSeq (sIf (tB blD (e2 eqD (e2 fdivD (eVar 1) (eC (.int 80))) (eC (.int 2))))
      (sSeq (sSet 2 (eC .non))
    sNil)
      sNil)
    (sSeq (sRet (eL tupD (aCons (eVar 2) (aCons (e2 eqD (e2 modD (eVar 1) (eC (.int 2))) (eC (.int 1))) aNil))))
    sNil)))))
def spotM : List D → Option D := runD false 3 1 spotG
def IsFld (F : D) : Prop := F = .non ∨ ∃ (v : Int) (c g : Bool), F = .tup [.int v, .bl c, .bl g] ∧ 0 ≤ v ∧ v < 10
theorem spot_form (z : Int) : ∃ (F : D) (s : Bool), spotM [.int z] = some (.tup [F, .bl s]) ∧ IsFld F := by
  cases hb : (z % 200 / 80 == 2) with
  | true =>
    refine ⟨.non, z % 200 % 2 == 1, runD_rt ?_, .inl rfl⟩
    exact seq_set (d := .int (z % 200)) (by kernel_rfl) (seq_fg (seq_set (d := .tup [.int (z % 200 / 2 % 10), .bl (z % 200 / 20 % 2 == 1), .bl (z % 200 / 40 % 2 == 1)]) (by kernel_rfl) (seq_t (hb ▸ (by kernel_rfl)) (seq_as (seq_set (d := .non) (by kernel_rfl) (seq_nil (seq_ret (by kernel_rfl))))))))
  | false =>
    refine ⟨.tup [.int (z % 200 / 2 % 10), .bl (z % 200 / 20 % 2 == 1), .bl (z % 200 / 40 % 2 == 1)], z % 200 % 2 == 1, runD_rt ?_, .inr ⟨_, _, _, rfl, by omega, by omega⟩⟩
    exact seq_set (d := .int (z % 200)) (by kernel_rfl) (seq_fg (seq_set (d := .tup [.int (z % 200 / 2 % 10), .bl (z % 200 / 20 % 2 == 1), .bl (z % 200 / 40 % 2 == 1)]) (by kernel_rfl) (seq_f (hb ▸ (by kernel_rfl)) (seq_nil (seq_ret (by kernel_rfl))))))
theorem label_form (z : Int) : ∃ L : Str, ixD (.str "abcdefgh") (.int (z % 8)) = some (.str L) ∧ L ∈ (["a", "b", "c", "d", "e", "f", "g", "h"] : List String).map Str.ofString := by
  have h1 := Int.emod_nonneg z (show (8 : Int) ≠ 0 by decide)
  have h2 := Int.emod_lt_of_pos z (show (0 : Int) < 8 by decide)
  obtain ⟨k, hk⟩ : ∃ k : Nat, z % 8 = (k : Int) ∧ k < 8 := ⟨(z % 8).toNat, by omega, by omega⟩
  have all : ∀ k : Fin 8, ∃ L ∈ (["a", "b", "c", "d", "e", "f", "g", "h"] : List String).map Str.ofString, ixD (.str "abcdefgh") (.int (k.val : Int)) = some (.str L) := by
    intro k
    match k with
    | 0 => exact ⟨Str.ofString "a", by simp, by kernel_rfl⟩
    | 1 => exact ⟨Str.ofString "b", by simp, by kernel_rfl⟩
    | 2 => exact ⟨Str.ofString "c", by simp, by kernel_rfl⟩
    | 3 => exact ⟨Str.ofString "d", by simp, by kernel_rfl⟩
    | 4 => exact ⟨Str.ofString "e", by simp, by kernel_rfl⟩
    | 5 => exact ⟨Str.ofString "f", by simp, by kernel_rfl⟩
    | 6 => exact ⟨Str.ofString "g", by simp, by kernel_rfl⟩
    | 7 => exact ⟨Str.ofString "h", by simp, by kernel_rfl⟩
  obtain ⟨L, h3, h4⟩ := all ⟨k, hk.2⟩
  exact ⟨L, by rw [hk.1]; exact h4, h3⟩
end FL
namespace FL
variable [HW]
open PySem
section
variable {F G : Env → Option D} {ρ : Env} {i j : Int}
theorem int_v (h : F ρ = some (.int i)) : eL intD (aCons F aNil) ρ = some (.int i) := eL_val (aCons_val h rfl) rfl
theorem mod_v (c : Int) (hc : 0 < c) (h : F ρ = some (.int i)) : e2 modD F (eC (.int c)) ρ = some (.int (i % c)) := e2_val h rfl (by unfold modD; simp [hc])
theorem fdiv_v (c : Int) (hc : 0 < c ∧ c < 1073741824) (h : F ρ = some (.int i)) : e2 fdivD F (eC (.int c)) ρ = some (.int (i / c)) := e2_val h rfl (by unfold fdivD; simp [hc])
theorem add_v (h : F ρ = some (.int i)) (h2 : G ρ = some (.int j)) : e2 addD F G ρ = some (.int (i + j)) := e2_val h h2 rfl
theorem sub_v (h : F ρ = some (.int i)) (h2 : G ρ = some (.int j)) : e2 subD F G ρ = some (.int (i - j)) := e2_val h h2 rfl
theorem mul_v (h : F ρ = some (.int i)) (h2 : G ρ = some (.int j)) (hb : (-(2 ^ 64) < i ∧ i < 2 ^ 64) ∨ (-(2 ^ 64) < j ∧ j < 2 ^ 64)) : e2 mulD F G ρ = some (.int (i * j)) := e2_val h h2 (by show (if _ then _ else _) = _; rw [if_pos hb])
theorem gt_v (h : F ρ = some (.int i)) (h2 : G ρ = some (.int j)) : tB blD (e2 gtD F G) ρ = some (decide (j < i)) := tB_val (e2_val h h2 rfl) rfl
theorem ge_v (h : F ρ = some (.int i)) (h2 : G ρ = some (.int j)) : tB blD (e2 geD F G) ρ = some (decide (j ≤ i)) := tB_val (e2_val h h2 rfl) rfl
theorem eq_v (h : F ρ = some (.int i)) (h2 : G ρ = some (.int j)) : e2 eqD F G ρ = some (.bl (i == j)) := e2_val h h2 rfl
theorem teq_v (h : F ρ = some (.int i)) (h2 : G ρ = some (.int j)) : tB blD (e2 eqD F G) ρ = some (i == j) := tB_val (eq_v h h2) rfl
theorem var_v {k : Nat} {d : D} (h : ρ[k]? = some (some d)) : eVar k ρ = some d := by unfold eVar; rw [h]
theorem seq_mut {f : List D → List D → Option (List D)} {Fs : Env → Option (List D)} {k : Nat} {xs ys ds : List D} {G : Env → Option Out} {o : Option Out} (h1 : Fs ρ = some ds) (h2 : ρ[k]? = some (some (.lst xs))) (h3 : f xs ds = some ys) (kk : G (ρ.set k (some (.lst ys))) = o) : sSeq (sMut k f Fs) G ρ = o := by
  unfold sSeq sMut
  rw [h1, var_v h2]
  simp only [h3]
  exact kk
end
/-! ### the draws of a cell -/
def drawsG : FL.Env → Option Out :=
    (sSeq (sSet 2 (eL lstD aNil))
    (sSeq (sSet 3 (eC (.int 0)))
    (sSeq (sIf (tB blD (e2 geD (eVar 0) (e2 powD (eC (.int 10)) (eC (.int 18)))))
      (sSeq (sSet 3 (e2 subD (eVar 0) (e2 powD (eC (.int 10)) (eC (.int 18)))))
    sNil)
      sNil)
    (sSeq (sFor (iRng1 (aCons (eVar 1) aNil)) (gSet 4)
      (sSeq (sSet 5 (e2 modD (eL intD (aCons (e2 addD (e2 addD (eVar 0) (e2 mulD (eC (.int 7919)) (eVar 4))) (eC (.int 13))) aNil)) (eC (.int 2147483647))))
    (sSeq (sSet 5 (e2 modD (eL intD (aCons (e2 addD (e2 mulD (eVar 5) (eVar 5)) (e2 mulD (eC (.int 48271)) (eVar 4))) aNil)) (eC (.int 2147483629))))
    (sSeq (sSet 5 (e2 modD (eL intD (aCons (e2 addD (e2 mulD (eVar 5) (eC (.int 69621))) (e2 fdivD (eVar 5) (eC (.int 1009)))) aNil)) (eC (.int 1000003))))
    (sSeq (sIf (tB blD (e2 gtD (eVar 3) (eC (.int 0))))
      (sSeq (sSet 5 (e2 modD (eL intD (aCons (eVar 3) aNil)) (eC (.int 1000003))))
    (sSeq (sSet 3 (e2 fdivD (eVar 3) (eC (.int 1000003))))
    sNil))
      sNil)
    (sSeq (sMut 2 appendF (aCons (eVar 5) aNil))
    sNil))))))
    (sForget [0, 1, 3, 4, 5] (sSeq (sRet (eVar 2))
    sNil))))))
def drawsM : List D → Option D := runD false 6 2 drawsG
theorem draws_turn {z : Int} {n : D} {acc : List Int} {rest k : Int} {x : Option D} (hacc : acc.length < 1000) :
    ∃ (r' m' : Int), 0 ≤ m' ∧ m' < 1000003 ∧
      (sSeq (sSet 5 (e2 modD (eL intD (aCons (e2 addD (e2 addD (eVar 0) (e2 mulD (eC (.int 7919)) (eVar 4))) (eC (.int 13))) aNil)) (eC (.int 2147483647))))
    (sSeq (sSet 5 (e2 modD (eL intD (aCons (e2 addD (e2 mulD (eVar 5) (eVar 5)) (e2 mulD (eC (.int 48271)) (eVar 4))) aNil)) (eC (.int 2147483629))))
    (sSeq (sSet 5 (e2 modD (eL intD (aCons (e2 addD (e2 mulD (eVar 5) (eC (.int 69621))) (e2 fdivD (eVar 5) (eC (.int 1009)))) aNil)) (eC (.int 1000003))))
    (sSeq (sIf (tB blD (e2 gtD (eVar 3) (eC (.int 0))))
      (sSeq (sSet 5 (e2 modD (eL intD (aCons (eVar 3) aNil)) (eC (.int 1000003))))
    (sSeq (sSet 3 (e2 fdivD (eVar 3) (eC (.int 1000003))))
    sNil))
      sNil)
    (sSeq (sMut 2 appendF (aCons (eVar 5) aNil))
    sNil))))) [some (.int z), some n, some (.lst (acc.map D.int)), some (.int rest), some (.int k), x]
      = some (.nx [some (.int z), some n, some (.lst ((acc ++ [m']).map D.int)), some (.int r'), some (.int k), some (.int m')]) := by
  generalize e1 : (z + 7919 * k + 13) % 2147483647 = m1
  have b1 : 0 ≤ m1 ∧ m1 < 2147483647 := by subst e1; exact ⟨Int.emod_nonneg _ (by decide), Int.emod_lt_of_pos _ (by decide)⟩
  generalize e2' : (m1 * m1 + 48271 * k) % 2147483629 = m2
  have b2 : 0 ≤ m2 ∧ m2 < 2147483629 := by subst e2'; exact ⟨Int.emod_nonneg _ (by decide), Int.emod_lt_of_pos _ (by decide)⟩
  generalize e3 : (m2 * 69621 + m2 / 1009) % 1000003 = m3
  have b3 : 0 ≤ m3 ∧ m3 < 1000003 := by subst e3; exact ⟨Int.emod_nonneg _ (by decide), Int.emod_lt_of_pos _ (by decide)⟩
  have app : ∀ m : Int, appendF (acc.map D.int) [.int m] = some ((acc ++ [m]).map D.int) := fun m => by
    show (if (acc.map D.int).length < sizeLine then some (acc.map D.int ++ [D.int m]) else none) = _
    rw [if_pos (by rw [List.length_map, PySem.sizeLine_eq]; omega)]
    simp
  by_cases hr : 0 < rest
  · refine ⟨rest / 1000003, rest % 1000003, Int.emod_nonneg _ (by decide), Int.emod_lt_of_pos _ (by decide), ?_⟩
    refine seq_set (d := .int m1) (by subst e1; exact mod_v _ (by decide) (int_v (add_v (add_v rfl (mul_v rfl rfl (.inl ⟨by decide, by decide⟩))) rfl))) ?_
    refine seq_set (d := .int m2) (by subst e2'; exact mod_v _ (by decide) (int_v (add_v (mul_v rfl rfl (.inl ⟨by omega, by omega⟩)) (mul_v rfl rfl (.inl ⟨by decide, by decide⟩))))) ?_
    refine seq_set (d := .int m3) (by subst e3; exact mod_v _ (by decide) (int_v (add_v (mul_v rfl rfl (.inl ⟨by omega, by omega⟩)) (fdiv_v _ (by decide) rfl)))) ?_
    refine seq_t ((gt_v rfl rfl).trans (by simp [hr])) ?_
    refine seq_as (seq_set (d := .int (rest % 1000003)) (mod_v _ (by decide) (int_v rfl)) (seq_as (seq_set (d := .int (rest / 1000003)) (fdiv_v _ (by decide) rfl) (seq_nil ?_))))
    exact seq_mut (ds := [.int (rest % 1000003)]) (aCons_val rfl rfl) rfl (app _) rfl
  · refine ⟨rest, m3, b3.1, b3.2, ?_⟩
    refine seq_set (d := .int m1) (by subst e1; exact mod_v _ (by decide) (int_v (add_v (add_v rfl (mul_v rfl rfl (.inl ⟨by decide, by decide⟩))) rfl))) ?_
    refine seq_set (d := .int m2) (by subst e2'; exact mod_v _ (by decide) (int_v (add_v (mul_v rfl rfl (.inl ⟨by omega, by omega⟩)) (mul_v rfl rfl (.inl ⟨by decide, by decide⟩))))) ?_
    refine seq_set (d := .int m3) (by subst e3; exact mod_v _ (by decide) (int_v (add_v (mul_v rfl rfl (.inl ⟨by omega, by omega⟩)) (fdiv_v _ (by decide) rfl)))) ?_
    refine seq_f ((gt_v rfl rfl).trans (by simp [hr])) (seq_nil ?_)
    exact seq_mut (ds := [.int m3]) (aCons_val rfl rfl) rfl (app _) rfl
theorem draws_form (z : Int) (n : Nat) (hn : n < 1000) : ∃ ds : List Int, drawsM [.int z, .int (n : Int)] = some (.lst (ds.map D.int)) ∧ ds.length = n ∧ ∀ d ∈ ds, 0 ≤ d ∧ d < 1000003 := by
  have loop : ∀ rest : Int, ∃ (ds : List Int) (ρ' : FL.Env), loopF (gSet 4) (sSeq (sSet 5 (e2 modD (eL intD (aCons (e2 addD (e2 addD (eVar 0) (e2 mulD (eC (.int 7919)) (eVar 4))) (eC (.int 13))) aNil)) (eC (.int 2147483647))))
    (sSeq (sSet 5 (e2 modD (eL intD (aCons (e2 addD (e2 mulD (eVar 5) (eVar 5)) (e2 mulD (eC (.int 48271)) (eVar 4))) aNil)) (eC (.int 2147483629))))
    (sSeq (sSet 5 (e2 modD (eL intD (aCons (e2 addD (e2 mulD (eVar 5) (eC (.int 69621))) (e2 fdivD (eVar 5) (eC (.int 1009)))) aNil)) (eC (.int 1000003))))
    (sSeq (sIf (tB blD (e2 gtD (eVar 3) (eC (.int 0))))
      (sSeq (sSet 5 (e2 modD (eL intD (aCons (eVar 3) aNil)) (eC (.int 1000003))))
    (sSeq (sSet 3 (e2 fdivD (eVar 3) (eC (.int 1000003))))
    sNil))
      sNil)
    (sSeq (sMut 2 appendF (aCons (eVar 5) aNil))
    sNil))))) (rngD 0 n) [some (.int z), some (.int (n : Int)), some (.lst []), some (.int rest), none, none] = some (.nx ρ') ∧ ds.length = n ∧ (∀ d ∈ ds, 0 ≤ d ∧ d < 1000003) ∧ ∃ r x4 x5, ρ' = [some (.int z), some (.int (n : Int)), some (.lst (ds.map D.int)), some (.int r), x4, x5] := fun rest => by
    obtain ⟨ρ', e, h⟩ := loop_nx (g := gSet 4) (I := fun i ρ => i ≤ n ∧ ∃ (acc : List Int) (r : Int) (x4 x5 : Option D), ρ = [some (.int z), some (.int (n : Int)), some (.lst (acc.map D.int)), some (.int r), x4, x5] ∧ acc.length = i ∧ ∀ d ∈ acc, 0 ≤ d ∧ d < 1000003) (rngD 0 n) 0 [some (.int z), some (.int (n : Int)), some (.lst []), some (.int rest), none, none]
      (fun i ρ d hI hd => by
        obtain ⟨hi0, acc, r, x4, x5, rfl, hl, hb⟩ := hI
        obtain ⟨hi, rfl⟩ := rngD_get hd
        obtain ⟨r', m', h1, h2, h3⟩ := draws_turn (z := z) (n := .int (n : Int)) (acc := acc) (rest := r) (k := 0 + (i : Int)) (x := x5) (by omega)
        refine ⟨_, _, rfl, h3, by omega, acc ++ [m'], r', _, _, rfl, by rw [List.length_append, hl]; simp, fun d hd => ?_⟩
        rcases List.mem_append.mp hd with q | q
        · exact hb d q
        · have : d = m' := by simpa using q
          subst this; exact ⟨h1, h2⟩) ⟨Nat.zero_le _, [], rest, none, none, rfl, rfl, fun _ h => absurd h (by simp)⟩
    obtain ⟨_, acc, r, x4, x5, rfl, hl, hb⟩ := h
    rw [rngD_len, Nat.zero_add] at hl
    exact ⟨acc, _, e, hl, hb, r, x4, x5, rfl⟩
  have hr : iRng1 (aCons (eVar 1) aNil) = fun ρ => iRng1 (aCons (eVar 1) aNil) ρ := rfl
  have rng : ∀ rest : Int, iRng1 (aCons (eVar 1) aNil) [some (.int z), some (.int (n : Int)), some (.lst []), some (.int rest), none, none] = some (rngD 0 n) := fun rest => by
    have hb : -(2 ^ 62 : Int) ≤ (n : Int) ∧ (n : Int) < 2 ^ 62 := by omega
    simp [iRng1, aCons, aNil, eVar]
    omega
  have tail : ∀ rest : Int, ∃ ds : List Int, ((sSeq (sFor (iRng1 (aCons (eVar 1) aNil)) (gSet 4)
      (sSeq (sSet 5 (e2 modD (eL intD (aCons (e2 addD (e2 addD (eVar 0) (e2 mulD (eC (.int 7919)) (eVar 4))) (eC (.int 13))) aNil)) (eC (.int 2147483647))))
    (sSeq (sSet 5 (e2 modD (eL intD (aCons (e2 addD (e2 mulD (eVar 5) (eVar 5)) (e2 mulD (eC (.int 48271)) (eVar 4))) aNil)) (eC (.int 2147483629))))
    (sSeq (sSet 5 (e2 modD (eL intD (aCons (e2 addD (e2 mulD (eVar 5) (eC (.int 69621))) (e2 fdivD (eVar 5) (eC (.int 1009)))) aNil)) (eC (.int 1000003))))
    (sSeq (sIf (tB blD (e2 gtD (eVar 3) (eC (.int 0))))
      (sSeq (sSet 5 (e2 modD (eL intD (aCons (eVar 3) aNil)) (eC (.int 1000003))))
    (sSeq (sSet 3 (e2 fdivD (eVar 3) (eC (.int 1000003))))
    sNil))
      sNil)
    (sSeq (sMut 2 appendF (aCons (eVar 5) aNil))
    sNil))))))
    (sForget [0, 1, 3, 4, 5] (sSeq (sRet (eVar 2))
    sNil)))) [some (.int z), some (.int (n : Int)), some (.lst []), some (.int rest), none, none] = some (.rt (.lst (ds.map D.int))) ∧ ds.length = n ∧ ∀ d ∈ ds, 0 ≤ d ∧ d < 1000003 := fun rest => by
    obtain ⟨ds, ρ', e, hl, hb, r, x4, x5, rfl⟩ := loop rest
    exact ⟨ds, seq_for (rng rest) e (seq_fg (seq_ret rfl)), hl, hb⟩
  by_cases hz : (1000000000000000000 : Int) ≤ z
  · obtain ⟨ds, e, hl, hb⟩ := tail (z - 1000000000000000000)
    refine ⟨ds, runD_rt ?_, hl, hb⟩
    refine seq_set (d := .lst []) (by kernel_rfl) (seq_set (d := .int 0) rfl ?_)
    refine seq_t ((ge_v (i := z) (j := 1000000000000000000) rfl (by kernel_rfl)).trans (by simp [hz])) ?_
    exact seq_as (seq_set (d := .int (z - 1000000000000000000)) (sub_v (i := z) (j := 1000000000000000000) rfl (by kernel_rfl)) (seq_nil e))
  · obtain ⟨ds, e, hl, hb⟩ := tail 0
    refine ⟨ds, runD_rt ?_, hl, hb⟩
    refine seq_set (d := .lst []) (by kernel_rfl) (seq_set (d := .int 0) rfl ?_)
    exact seq_f ((ge_v (i := z) (j := 1000000000000000000) rfl (by kernel_rfl)).trans (by simp [hz])) (seq_nil e)
end FL
namespace FL
variable [HW]
open PySem
/-! ### a drawn event -/
def itemR : FL.Env → Option Out :=
    (sSeq (sIf (tB blD (e2 eqD (eVar 2) (eC (.int 0))))
      (sSeq (sRet (eL tupD (aCons (eL tupD (aCons (eC (.str "look")) (aCons (eVar 1) aNil))) (aCons (e2 ixD (eL lstD (aCons (eC .non) (aCons (eVar 5) (aCons (eVar 5) aNil)))) (e2 modD (e2 fdivD (eVar 3) (eC (.int 80))) (eC (.int 3)))) aNil))))
    sNil)
      sNil)
    (sSeq (sIf (tB blD (e2 eqD (eVar 2) (eC (.int 1))))
      (sSeq (sRet (eL tupD (aCons (eL tupD (aCons (eC (.str "get")) (aCons (eVar 1) aNil))) (aCons (e2 ixD (eL lstD (aCons (eC .non) (aCons (eVar 4) (aCons (eVar 4) aNil)))) (e2 modD (e2 fdivD (eVar 3) (eC (.int 80))) (eC (.int 3)))) aNil))))
    sNil)
      sNil)
    (sSeq (sIf (tB blD (e2 eqD (eVar 2) (eC (.int 2))))
      (sSeq (sRet (eL tupD (aCons (eL tupD (aCons (eC (.str "set")) (aCons (eVar 1) (aCons (eVar 4) aNil)))) (aCons (eVar 6) aNil))))
    sNil)
      sNil)
    (sSeq (sIf (tB blD (e2 eqD (eVar 2) (eC (.int 3))))
      (sSeq (sRet (eL tupD (aCons (eL tupD (aCons (eC (.str "define")) (aCons (eVar 1) (aCons (eVar 4) (aCons (e2 ixD (eVar 5) (eC (.int 1))) (aCons (e2 ixD (eVar 5) (eC (.int 2))) aNil)))))) (aCons (eVar 6) aNil))))
    sNil)
      sNil)
    (sForget [4, 5] (sSeq (sIf (tB blD (e2 eqD (eVar 2) (eC (.int 4))))
      (sSeq (sRet (eL tupD (aCons (eL tupD (aCons (eC (.str "has")) (aCons (eVar 1) aNil))) (aCons (eVar 6) aNil))))
    sNil)
      sNil)
    (sSeq (sIf (tB blD (e2 eqD (eVar 2) (eC (.int 5))))
      (sSeq (sRet (eL tupD (aCons (eL tupD (aCons (eC (.str "take")) (aCons (eVar 1) aNil))) (aCons (eVar 6) aNil))))
    sNil)
      sNil)
    (sForget [1] (sSeq (sIf (tB blD (e2 eqD (eVar 2) (eC (.int 6))))
      (sSeq (sSet 7 (eL lstD (aCons (eC (.int 1)) (aCons (eC (.int 2)) (aCons (eC (.int 4)) (aCons (eC (.int 8)) (aCons (eC (.int 16)) (aCons (eC (.int 32)) (aCons (eC (.int 64)) (aCons (eC (.int 128)) aNil))))))))))
    (sSeq (sSet 8 (eComp [9] (iStr (eC (.str "abcdefgh"))) (gSet 9) (tB blD (e2 eqD (e2 modD (eL intD (aCons (e2 fdivD (eVar 3) (e2 ixD (eVar 7) (e2 subD (eL ordD (aCons (eVar 9) aNil)) (eC (.int 97))))) aNil)) (eC (.int 2))) (eC (.int 1)))) (eVar 9)))
    (sSeq (sIf (tB blD (e2 eqD (e2 modD (e2 fdivD (eVar 3) (eC (.int 256))) (eC (.int 2))) (eC (.int 1))))
      (sSeq (sSet 8 (e1 revD (eVar 8)))
    sNil)
      sNil)
    (sSeq (sRet (eL tupD (aCons (eL tupD (aCons (eC (.str "names")) aNil)) (aCons (eL tupOf (aCons (eVar 8) aNil)) aNil))))
    sNil))))
      sNil)
    (sForget [3, 7, 8] (sSeq (sRet (eL tupD (aCons (e2 ixD (eL lstD (aCons (eL tupD (aCons (eC (.str "shut")) aNil)) (aCons (eL tupD (aCons (eC (.str "isshut")) aNil)) aNil))) (e2 subD (eVar 2) (eC (.int 7)))) (aCons (eVar 6) aNil))))
    sNil)))))))))))
def itemG : FL.Env → Option Out :=
    (sSeq (sSet 2 (e2 modD (eL intD (aCons (eVar 0) aNil)) (eC (.int 9))))
    (sSeq (sSet 3 (e2 fdivD (eL intD (aCons (eVar 0) aNil)) (eC (.int 9))))
    (sForget [0] (sSeq (sSet 4 (e2 modD (eVar 3) (eC (.int 10))))
    (sSeq (sSet 5 (eL tupD (aCons (eVar 4) (aCons (e2 eqD (e2 modD (e2 fdivD (eVar 3) (eC (.int 10))) (eC (.int 2))) (eC (.int 1))) (aCons (e2 eqD (e2 modD (e2 fdivD (eVar 3) (eC (.int 20))) (eC (.int 2))) (eC (.int 1))) aNil)))))
    (sSeq (sSet 6 (e2 eqD (e2 modD (e2 fdivD (eVar 3) (eC (.int 40))) (eC (.int 2))) (eC (.int 1)))) itemR))))))
def itemM : List D → Option D := runD false 10 2 itemG
def letters : List Str := (["a", "b", "c", "d", "e", "f", "g", "h"] : List String).map Str.ofString
inductive IsEv (L : Str) : D → Prop
  | look {F : D} : IsFld F → IsEv L (.tup [.tup [.str "look", .str L], F])
  | get0 : IsEv L (.tup [.tup [.str "get", .str L], .non])
  | get {v : Int} : 0 ≤ v → v < 10 → IsEv L (.tup [.tup [.str "get", .str L], .int v])
  | set {v : Int} {y : Bool} : 0 ≤ v → v < 10 → IsEv L (.tup [.tup [.str "set", .str L, .int v], .bl y])
  | define {v : Int} {c g y : Bool} : 0 ≤ v → v < 10 → IsEv L (.tup [.tup [.str "define", .str L, .int v, .bl c, .bl g], .bl y])
  | has {y : Bool} : IsEv L (.tup [.tup [.str "has", .str L], .bl y])
  | take {y : Bool} : IsEv L (.tup [.tup [.str "take", .str L], .bl y])
  | names {zs : List Str} : (∀ z ∈ zs, z ∈ letters) → zs.length ≤ 8 → IsEv L (.tup [.tup [.str "names"], .tup (zs.map D.str)])
  | shut {y : Bool} : IsEv L (.tup [.tup [.str "shut"], .bl y])
  | isshut {y : Bool} : IsEv L (.tup [.tup [.str "isshut"], .bl y])
end FL
namespace FL
variable [HW]
open PySem L2 PySem.Spec PyProof.Rows
/-! ### list comprehensions with any number of clauses -/
section
variable {P : Program} {W : World} {B : Around} {elt : Expr} {gens : List Comprehension} {scope : Scope} {pos : Pos} {n : Nat} {it out : Value} {env : PySem.Env} {c : Comprehension} {st : Shared}
def Behind (P : Program) (W : World) (B : Around) (elt : Expr) (gens : List Comprehension) (scope : Scope) (pos : Pos) (env : PySem.Env) (out : Value) (n : Nat) (K : Shared → Prop) (E : Value → Shared → Prop) (st : Shared) : Prop :=
  match gens[n]? with
  | some d => d.is_async = 0 ∧ (∀ x, foldedSetIterable d.iter env x = pure x) ∧
      wpAny (model P W) B (eval d.iter env) (fun x s1 => wpAny (model P W) B (pyIter x) (fun i s2 =>
        codeAny (model P W) B (.compStart (.ListComp elt gens scope pos) n i out env) (fun r s' => match r with | .ok _ => K s' | .error _ => False) s2) E s1) E st
  | none => wpAny (model P W) B (eval elt env) (fun y s1 => wpAny (model P W) B (call (.builtin "list.append") [out, y]) (fun _ s' => K s') E s1) E st
end
structure Lv where
  wi : TI
  g : TG
  tt : TT
  vs : List Nat
def Walk (l : Lv) (Go : (Hp → Prop) → L2.St → Hp → Prop) (J : It) (Stop : Hp → Prop) (σ : L2.St) (H0 : Hp) : Prop :=
  ∃ W : Nat → Nat → Hp → Prop, (∃ m, W 0 m H0) ∧ ∀ j k H, W j k H →
    (J.stop j H ∧ Stop H) ∨ (J.go j H ∧ ∃ Nx : Hp → Prop, (∀ H', Nx H' → ∃ k', k' < k ∧ W (j + 1) k' H') ∧ ∀ x H', J.yld j H x H' → l.g x (wipe σ l.vs) H' fun σ3 H5 => wipe σ3 l.vs = wipe σ l.vs ∧ l.tt σ3 H5 fun b H6 =>
      if b = true then Go Nx σ3 H6 else Nx H6)
def tIn (te : TE) (D : Addr) : List Lv → (Hp → Prop) → L2.St → Hp → Prop
  | [], Nx, σ, H => te σ H fun y H7 => ∃ acc, H7 D = some (.lst acc) ∧ acc.length < sizeLine ∧ Nx (upd H7 D (.lst (acc ++ [y])))
  | l :: ls, Nx, σ, H => l.wi σ H fun J H4 => Walk l (tIn te D ls) J Nx σ H4
def LvOk (B : Cx) (c : Comprehension) (l : Lv) : Prop := c.is_async = 0 ∧ (∀ x, foldedSetIterable c.iter B.env x = pure x) ∧ PI B c.target c.iter l.wi ∧ PG B c.target l.g ∧ PTs B c.ifs l.tt
inductive Lvs (B : Cx) : List Nat → List Comprehension → List Lv → Prop
  | nil {vs} : Lvs B vs [] []
  | cons {vs c l cs ls} : LvOk B c l → (∀ i ∈ l.vs, i ∈ vs) → Lvs B l.vs cs ls → Lvs B vs (c :: cs) (l :: ls)
structure At (B : Cx) (pins : List (Addr × Obj)) (σ : L2.St) (tn : Nat → Heap → Prop) (fp : List Addr) (i : Nat) (H : Hp) (s : Shared) : Prop where
  inv : Inv B pins σ H s
  tn : tn i s.heap
  no : ∀ b ∈ fp, H b = none
section
variable {X : Cx} {elt : Expr} {gens : List Comprehension} {scope : Scope} {pos : Pos} {ce : PySem.Env} {D : Addr} {te : TE} {s3 : Shared} {H3 : Hp} {fp : List Addr}
end
section
variable {X : Cx} {elt tg iter : Expr} {ifs : List Expr} {cs : List Comprehension} {scope : Scope} {own : List (Str × Nat)} {pos : Pos} {te : TE}
def tLcN (te : TE) (l : Lv) (ls : List Lv) : TE := fun σ H Q => l.wi σ H fun J H1 => ∀ D, H1 D = none → Walk l (tIn te D ls) J (fun H => Q (.ref D) H) σ (upd H1 D (.lst []))
end
end FL
namespace FL
variable [HW]
open PySem L2
/-! ### list comprehensions of several clauses -/
def flatL (g : D → Env → Option Env) (R : Env → Option (List D)) (ρ : Env) : List D → Option (List D)
  | [] => some []
  | d :: ds => match g d ρ with
    | none => none
    | some ρ2 => match R ρ2 with
      | none => none
      | some xs => match flatL g R ρ ds with | none => none | some ys => some (xs ++ ys)
def cE (E : Env → Option D) : Env → Option (List D) := fun ρ => match E ρ with | some y => some [y] | none => none
def cF (vs : List Nat) (Fi : Env → Option (List D)) (g : D → Env → Option Env) (R : Env → Option (List D)) : Env → Option (List D) := fun ρ =>
  match Fi ρ with | some ds => flatL g R (wipeE ρ vs) ds | none => none
def eCompN (O vs : List Nat) (Fi : Env → Option (List D)) (g : D → Env → Option Env) (R : Env → Option (List D)) : Env → Option D := fun ρ =>
  match Fi ρ with | some ds => (match flatL g R (wipeE (wipeE ρ O) vs) ds with | some ys => if ys.length ≤ sizeLine then some (.lst ys) else none | none => none) | none => none
structure GX (D : Addr) (Hf H Hf' H' : Hp) : Prop where
  f : Same Hf Hf'
  h : ∀ b o, b ≠ D → H b = some o → H' b = some o
  s : Same Hf' H'
  n : ∀ a o, H a = some o → Hf a = none → Hf' a = none
section
variable {K : PySem.W.Frag} {φ : Nat → Option Addr} {Hf0 H0 Hf H Hf' H' Hf1 H1 Hf2 H2 : Hp} {O : List Nat} {ρ : Env} {σ : St} {D : Addr}
theorem Gr.x (g : Gr Hf H Hf' H') : GX D Hf H Hf' H' := ⟨g.f, fun b o _ e => g.h b o e, g.s, g.n⟩
theorem GX.trans (a : GX D Hf H Hf1 H1) (b : GX D Hf1 H1 Hf2 H2) (hd : Hf2 D = none) : GX D Hf H Hf2 H2 :=
  ⟨a.f.trans b.f, fun x o hx e => b.h x o hx (a.h x o hx e), b.s, fun x o h1 h2 => by
    by_cases hx : x = D
    · rw [hx]; exact hd
    · exact b.n x o (a.h x o hx h1) (a.n x o h1 h2)⟩
theorem GX.put (s : Same Hf H) {o : HO} (hd : Hf D = none) : GX D Hf H Hf (upd H D o) :=
  ⟨Same.refl _, fun b o hb e => by rw [upd_ne hb]; exact e, fun b o e => by rw [upd_ne (ne_of_none e hd)]; exact s _ _ e, fun _ _ _ h => h⟩
theorem SR.drop {O' : List Nat} (hO : (O.all fun i => O'.contains i) = true) (S : SR K φ Hf0 H0 O ρ σ Hf H) : SR K φ Hf0 H0 [] (wipeE ρ O') σ Hf H :=
  ⟨by rw [wipeE_len]; exact S.len, S.sub, S.gf, S.gh, S.gn, fun i d e _ => let ⟨e1, e2⟩ := wipeE_some e; S.val i d e1 fun m => e2 (by simpa using (List.all_eq_true.mp hO) i m), fun i d e m => absurd m (by simp), fun i j d e a h1 h2 m1 => absurd m1 (by simp)⟩
end
section
variable {X : Cx} {O : List Nat} {tg iter elt : Expr} {scope : Scope} {own : List (Str × Nat)} {pos : Pos} {cs : List Comprehension} {ls : List Lv} {R : Env → Option (List D)}
def uI (X : Cx) (scope : Scope) (tg iter : Expr) : TI := fun σ H Q => ∀ (s : Shared) (H0 : Hp) (C : Addr) (cl : List (Str × Addr)) (fp : List Addr), wI (X.blk s H0 scope (compEnvC scope cl C X.env) fp) tg iter σ H Q
def FR (X : Cx) (scope : Scope) (elt : Expr) (vs0 : List Nat) (cs : List Comprehension) (ls : List Lv) (R : Env → Option (List D)) : Prop :=
  (∀ s H C cl fp, Lvs (X.blk s H scope (compEnvC scope cl C X.env) fp) vs0 cs ls) ∧
  ∀ (φ : Nat → Option Addr) (Hf0 H0 : Hp) (ρ : Env) (σ : St) (Hf H : Hp) (xs : List D) (D' : Addr) (acc : List D) (us : List V) (Nx : Hp → Prop), H0 D' = none → SR X.K φ Hf0 H0 [] ρ σ Hf H → R ρ = some xs → Hf D' = none → H D' = some (.lst us) → RpAll X.K φ Hf acc us → acc.length + xs.length ≤ sizeLine →
    (∀ Hf' H' us', GX D' Hf H Hf' H' → Hf' D' = none → H' D' = some (.lst us') → RpAll X.K φ Hf' (acc ++ xs) us' → Nx H') → tIn (uE X scope elt) D' ls Nx σ H
end
end FL
namespace FL
variable [HW]
open PySem L2
section
variable {X : Cx} {fr : Bool} {L O : List Nat} {pos : Pos}
def popF : List D → List D → Option (List D) := fun xs ds => match ds with | [] => if xs.length = 0 then none else some (xs.take (xs.length - 1)) | _ => none
end
end FL
namespace FL
variable [HW]
open PySem L2
/-! ### methods of strs and lists as expressions -/
def eM (f : D → List D → Option D) (F : Env → Option D) (Fs : Env → Option (List D)) : Env → Option D := fun ρ =>
  match F ρ with | some x => (match Fs ρ with | some ds => f x ds | none => none) | none => none
def OpM (K : PySem.W.Frag) (T : String) (r : V → List V → Hp → VK → Prop) (f : D → List D → Option D) : Prop :=
  ∀ (φ : Nat → Option Addr) (Hf H Hf1 H1 : Hp) (x : D) (ds : List D) (d : D) (v : V) (vs : List V) (Q : VK), Same Hf H → Gr Hf H Hf1 H1 → Rpb K φ Hf H x v → RpbAll K φ Hf1 H1 ds vs → f x ds = some d →
    (∀ u Hf' H', Gr Hf1 H1 Hf' H' → Rp K φ Hf' d u → Q u H') → r v vs H1 Q
section
variable {X : Cx} {fr : Bool} {L O O' : List Nat} {o e : Expr} {es : List Expr} {F : Env → Option D} {Fs : Env → Option (List D)}
theorem fs_dead {st : Stmt} : FS X fr L O O' st (fun _ => none) := fun φ Hf0 H0 ρ σ Hf H out Dn S hF P => nomatch hF
def strsD : List D → Option (List Str)
  | [] => some [] | .str z :: ds => (match strsD ds with | some zs => some (z :: zs) | none => none) | _ :: _ => none
def joinD (x : D) (ds : List D) : Option D := match x, ds with
  | .str a, [y] => (match seqD y with
    | some ys => (match strsD ys with | some zs => if (zs.map (·.length)).sum + zs.length * a.length ≤ 16777216 then some (.str (Txt.join a zs)) else none | none => none)
    | none => none)
  | _, _ => none
end
end FL
namespace FL
variable [HW]
open PySem L2
section
variable {X : Cx} {O : List Nat} {o e : Expr} {es : List Expr} {F : Env → Option D} {Fs : Env → Option (List D)}
def splitD (x : D) (ds : List D) : Option D := match x, ds with
  | .str a, [.str b] => if (b.length == 0) = false ∧ a.length + 2 ≤ sizeLine then some (.lst ((Txt.split a b).map D.str)) else none
  | _, _ => none
def idxD (y : D) : List D → Option Nat
  | [] => none
  | z :: zs => if deq z y = true then some 0 else (match idxD y zs with | some k => some (k + 1) | none => none)
def indexD (x : D) (ds : List D) : Option D := match ds with
  | [y] => if isLst x && flatD y then (match seqD x with | some xs => if xs.all flatD then (match idxD y xs with | some k => some (.int (k : Nat)) | none => none) else none | none => none) else none
  | _ => none
end
end FL
namespace FL
variable [HW]
open PySem PySem.Spec L2

/-! ### defs that yield -/
def wY (X : Cx) (st : Stmt) : TGn := fun D ys σ H => Lk (∀ (A : Around) (S : Addr) (ip : List (Addr × Obj)) (R : GenEnd) (n : Nat) (s₀ : Shared) (c : Code) (fs : List Frame) (K : Flow → Sem PySem.Fin) (J : Value → Sem PySem.Fin) (gd : Bool → Bool) (lv : List Value → List Value) (s : Shared),
  GC X S ip A c fs gd → n + ys.length = sizeLine → GK X S ip A R c fs K J D → GI X S ip ys σ H s → Seg (model X.prog X.w) A R (GY X S) n s₀ c ((exec st X.env).wrap K J gd lv) fs s)
def wYs (X : Cx) (st : List Stmt) : TGn := fun D ys σ H => Lk (∀ (A : Around) (S : Addr) (ip : List (Addr × Obj)) (R : GenEnd) (n : Nat) (s₀ : Shared) (c : Code) (fs : List Frame) (K : Flow → Sem PySem.Fin) (J : Value → Sem PySem.Fin) (gd : Bool → Bool) (lv : List Value → List Value) (s : Shared),
  GC X S ip A c fs gd → n + ys.length = sizeLine → GK X S ip A R c fs K J D → GI X S ip ys σ H s → Seg (model X.prog X.w) A R (GY X S) n s₀ c ((execs st X.env).wrap K J gd lv) fs s)
section
variable {X : Cx} {st : Stmt} {sts : List Stmt} {ys : List V} {σ : L2.St} {H : Hp} {D : GEnds}
def tGIf (tc : TT) (t u : TGn) : TGn := fun D ys σ H => tc σ H fun b H1 => if b = true then t D ys σ H1 else u D ys σ H1
end
inductive GO where
  | nx (acc : List D) (ρ : Env) | rt (acc : List D)
def GPost (K : PySem.W.Frag) (φ : Nat → Option Addr) (Hf0 H0 : Hp) (O : List Nat) (Hf : Hp) (Dn : GEnds) : GO → Prop
  | .nx acc ρ => ∀ σ' Hf' H' zs, Same Hf Hf' → SR K φ Hf0 H0 O ρ σ' Hf' H' → RpAll K φ Hf' acc zs → Dn.nx zs σ' H'
  | .rt acc => ∀ Hf' H' zs, Gr Hf0 H0 Hf' H' → RpAll K φ Hf' acc zs → Dn.rt zs .non H'
theorem GPost.mono {K : PySem.W.Frag} {φ : Nat → Option Addr} {Hf0 H0 : Hp} {O : List Nat} {Hf Hf1 : Hp} {Dn : GEnds} (s : Same Hf Hf1) : ∀ {out : GO}, GPost K φ Hf0 H0 O Hf Dn out → GPost K φ Hf0 H0 O Hf1 Dn out
  | .nx _ _, h => fun σ' Hf' H' zs s' => h σ' Hf' H' zs (s.trans s')
  | .rt _, h => h
def FY (X : Cx) (O O' : List Nat) (st : Stmt) (G : List D → Env → Option GO) : Prop :=
  ∀ (φ : Nat → Option Addr) (Hf0 H0 : Hp) (ρ : Env) (σ : L2.St) (Hf H : Hp) (acc : List D) (zs : List V) (out : GO) (Dn : GEnds), SR X.K φ Hf0 H0 O ρ σ Hf H → RpAll X.K φ Hf acc zs → G acc ρ = some out → GPost X.K φ Hf0 H0 O' Hf Dn out → wY X st Dn zs σ H
def FYs (X : Cx) (O O' : List Nat) (sts : List Stmt) (G : List D → Env → Option GO) : Prop :=
  ∀ (φ : Nat → Option Addr) (Hf0 H0 : Hp) (ρ : Env) (σ : L2.St) (Hf H : Hp) (acc : List D) (zs : List V) (out : GO) (Dn : GEnds), SR X.K φ Hf0 H0 O ρ σ Hf H → RpAll X.K φ Hf acc zs → G acc ρ = some out → GPost X.K φ Hf0 H0 O' Hf Dn out → wYs X sts Dn zs σ H
def yNil : List D → Env → Option GO := fun acc ρ => some (.nx acc ρ)
def yRet : List D → Env → Option GO := fun acc ρ => some (.rt acc)
def ySeq (F G : List D → Env → Option GO) : List D → Env → Option GO := fun acc ρ => match F acc ρ with | some (.nx acc' ρ') => G acc' ρ' | o => o
def yPl (F : Env → Option Out) : List D → Env → Option GO := fun acc ρ => match F ρ with | some (.nx ρ') => some (.nx acc ρ') | _ => none
def yOut (F : Env → Option D) : List D → Env → Option GO := fun acc ρ => match F ρ with | some d => if acc.length < sizeLine then some (.nx (acc ++ [d]) ρ) else none | none => none
def yIf (C : Env → Option Bool) (F G : List D → Env → Option GO) : List D → Env → Option GO := fun acc ρ => match C ρ with | some true => F acc ρ | some false => G acc ρ | none => none
section
variable {X : Cx} {O O' O1 : List Nat} {st : Stmt} {sts : List Stmt} {e : Expr} {pos yp : Pos} {F : Env → Option D} {G G2 : List D → Env → Option GO}
end
def spY (K : PySem.W.Frag) (n : Nat) (m : List D → Option (List D)) : SpG := fun vs H Q _ => ∃ (φ : Nat → Option Addr) (Hf : Hp) (ds out : List D), Same Hf H ∧ RpAll K φ Hf ds vs ∧ ds.length = n ∧ m ds = some out ∧ ∀ Hf' H' zs, Gr Hf H Hf' H' → RpAll K φ Hf' out zs → Q zs H'
def runY (N n : Nat) (G : List D → Env → Option GO) (ds : List D) : Option (List D) := match G [] (envOf N n ds) with
  | some (.nx acc _) => some acc
  | some (.rt acc) => some acc
  | none => none
structure CalY (P : Program) (w : World) (K : PySem.W.Frag) (mg : Str → Option Value) (base : Heap) (k : Nat) (x : Str) (n : Nat) (m : List D → Option (List D)) : Prop where
  ok : ∃ (f : Addr) (fd : FuncData) (ps : List Str), GFn P w K mg base k f fd ps (spY K n m) ∧ mg x = some (.ref f) ∧ PySem.W.keepIn K (.ref f) = true ∧ Binds K fd ps []
section
variable {P : Program} {w : World} {K : PySem.W.Frag} {mg : Str → Option Value} {base : Heap} {k : Nat} {a : Addr} {ps N : List Str} {x : Str} {st : Stmt} {G : List D → Env → Option GO}
end
section
variable {X : Cx} {O : List Nat} {es : List Expr} {e : Expr} {x nm : Str} {p p2 pos pos' : Pos} {Fs : Env → Option (List D)} {k j : Nat} {n : Nat} {m : List D → Option (List D)}
def mLY (n : Nat) (m : List D → Option (List D)) : List D → Option D := fun ds => if ds.length = n then (match m ds with | some out => some (.lst out) | none => none) else none
end
end FL
namespace FL
variable [HW]
open PySem PySem.Spec L2

/-! ### objects that no one changes any more: attributes -/
def lkD (f : Str) : List Str → List D → Option D
  | g :: gs, d :: ds => if (f == g) = true then some d else lkD f gs ds
  | _, _ => none
theorem lkD_ok {K : PySem.W.Frag} {φ : Nat → Option Addr} {H : Hp} {f : Str} : ∀ (fs : List Str) {ds : List D} {vs : List V} {d : D}, RpAll K φ H ds vs → lkD f fs ds = some d → ∃ v, (fs.zip vs).lookup f = some v ∧ Rp K φ H d v
  | [], [], _, _, _, h => by cases h
  | [], _ :: _, _, _, _, h => by cases h
  | _ :: _, [], _, _, _, h => by cases h
  | g :: gs, d0 :: ds, _, d, .cons (v := v) (vs := vs) r t, h => by
    unfold lkD at h
    show ∃ u, List.lookup f ((g, v) :: gs.zip vs) = some u ∧ _
    rw [List.lookup_cons]
    cases e : f == g with
    | true =>
      rw [e, if_pos rfl] at h
      cases h
      exact ⟨v, rfl, r⟩
    | false =>
      rw [e, if_neg Bool.false_ne_true] at h
      exact lkD_ok gs t h
def fldD (c f : Str) : D → Option D
  | .ins c' fs xs => if c' = c then lkD f fs xs else none
  | _ => none
theorem zip_lookup_none {m : Str} : ∀ (fs : List Str) (vs : List V), fs.contains m = false → (fs.zip vs).lookup m = none
  | [], _, _ => rfl
  | _ :: _, [], _ => rfl
  | g :: gs, v :: vs, h => by
    have h' : m ≠ g ∧ gs.contains m = false := by simpa using h
    show List.lookup m ((g, v) :: gs.zip vs) = none
    rw [List.lookup_cons, beq_eq_false_iff_ne.mpr h'.1]
    exact zip_lookup_none gs vs h'.2
section
variable {X : Cx} {O : List Nat} {e o : Expr} {es : List Expr} {kws : List Keyword} {pos apos : Pos} {F Fo : Env → Option D} {Fs Gs : Env → Option (List D)} {c f m : Str} {k j n : Nat} {mir : List D → Option D} {df : List D}
theorem fldD_some {x d : D} (h : fldD c f x = some d) : ∃ fs xs, x = .ins c fs xs ∧ lkD f fs xs = some d := by
  cases x with
  | ins c' fs xs =>
    have h' : (if c' = c then lkD f fs xs else none) = some d := h
    by_cases hc : c' = c
    · subst hc
      rw [if_pos rfl] at h'
      exact ⟨fs, xs, rfl, h'⟩
    · rw [if_neg hc] at h'; cases h'
  | _ => cases h
theorem fe_fld (hc : Cls X.K (He.ga X.K c)) (hn : NoAttr X.K (He.ga X.K c) f) (h : FE X O e F) (hb : attributeBase e f X.env (eval e X.env) = eval e X.env := by rfl) : FE X O (.Attribute e f pos) (e1 (fldD c f) F) := by
  intro φ Hf0 H0 ρ σ Hf H d Q S hF q
  obtain ⟨x, h1, h2⟩ := e1_some hF
  obtain ⟨fs, xs, rfl, h3⟩ := fldD_some h2
  refine toE (pe_fld peW hb) ?_
  refine h φ Hf0 H0 ρ σ Hf H _ _ S h1 fun v Hf1 H1 g1 r1 => ?_
  cases r1 with
  | ins ha hl r =>
    obtain ⟨u, e1, e2⟩ := lkD_ok _ r h3
    exact ⟨_, _, _, _, u, rfl, g1.s _ _ ha, hc, hn, e1, q u Hf1 H1 g1 e2⟩
/-! ### methods -/
def eMe (c m : Str) (n : Nat) (mir : List D → Option D) (df : List D) (Fo : Env → Option D) (Fs : Env → Option (List D)) : Env → Option D := fun ρ => match Fo ρ with
  | some (.ins c' fs xs) => if c' = c then (if fs.contains m = false then (match Fs ρ with | some ds => mL n mir (.ins c' fs xs :: (ds ++ df)) | none => none) else none) else none
  | _ => none
structure CalM (P : Program) (w : World) (K : PySem.W.Frag) (mg : Str → Option Value) (base : Heap) (k : Nat) (c m : Str) (fr : Bool) (n : Nat) (mir : List D → Option D) (df : List D) : Prop where
  ok : ∃ (f : Addr) (fd : FuncData) (ps : List Str) (ds : List Value) (dvs : List V), FnOk P w K mg base CX0 k f fd ps (spF K fr n mir) ∧ Cls K (He.ga K c) ∧ Meth K (He.ga K c) m f ∧ Binds K fd ps ds ∧ Vals dvs ds ∧ ∀ φ H, RpAll K φ H df dvs
structure CalMk (P : Program) (w : World) (K : PySem.W.Frag) (mg : Str → Option Value) (base : Heap) (k : Nat) (c m : Str) (fr : Bool) (n : Nat) (mir : List D → Option D) (n0 : Nat) (ks : List Str) : Prop where
  ok : ∃ (f : Addr) (fd : FuncData) (ps : List Str) (g : List Value → List Value → List Value), FnOk P w K mg base CX0 k f fd ps (spF K fr n mir) ∧ Cls K (He.ga K c) ∧ Meth K (He.ga K c) m f ∧ KBn K fd ps (n0 + 1) ks g (fun vs zs => vs ++ zs)
/-! keywords -/
def wK (X : Cx) (kws : List Keyword) : TA := fun σ H Q => Lk (∀ pos pins s, Inv X pins σ H s → wpAny (model X.prog X.w) X.A (evalAll ((backToKw pos (keywordEach kws X.env)).map (·.2))) (AP X pins σ Q) X.xe s)
def FK (X : Cx) (O : List Nat) (kws : List Keyword) (F : Env → Option (List D)) : Prop :=
  ∀ (φ : Nat → Option Addr) (Hf0 H0 : Hp) (ρ : Env) (σ : L2.St) (Hf H : Hp) (ds : List D) (Q : List V → Hp → Prop), SR X.K φ Hf0 H0 O ρ σ Hf H → F ρ = some ds → (∀ vs Hf' H', Gr Hf H Hf' H' → RpAll X.K φ Hf' ds vs → Q vs H') → wK X kws σ H Q
def aApp (n k : Nat) (F G : Env → Option (List D)) : Env → Option (List D) := fun ρ => match F ρ with | some ds => (match G ρ with | some es => if ds.length = n ∧ es.length = k then some (ds ++ es) else none | none => none) | none => none
end
end FL
namespace FL
variable [HW]
open PySem PySem.Spec L2

/-! ### the defs of a class -/
def clsM (st : Stmt) (j : Nat) : Stmt := match st with
  | .ClassDef _ _ _ body _ _ _ _ _ _ _ => body.getD j (.Pass ⟨0, 0, 0, 0⟩)
  | _ => .Pass ⟨0, 0, 0, 0⟩
abbrev FnAt (K : PySem.W.Frag) (x q : Str) (st : Stmt) (dvs : List V) (kws : List (Str × V)) (a : Addr) : Prop := ∃ fd, FunD K x q (defArgs st) (defBody st) (defScope st) dvs kws a fd
section
variable {P : Program} {w : World} {K : PySem.W.Frag} {mg : Str → Option Value} {base : Heap} {k : Nat} {a : Addr} {ps N : List Str} {x q c m : Str} {st : Stmt} {G : Env → Option Out} {dvs : List V} {kws : List (Str × V)}
theorem fnOk_by {fd : FuncData} {N' n : Nat} (F : FunD K x q (defArgs st) (defBody st) (defScope st) dvs kws a fd) (S : FnScope N ps (defScope st)) (hN : N' = N.length) (hn : n = ps.length) {fr : Bool} (O' : List Nat)
    (hb : ∀ (cdv : Value) (A : Around) (outer : List PySem.Env) (s : Shared) (H : Hp) (E : XK), Room k (A.deeper (PyProof.Rows.envOfC q (defScope st) s.heap.objs.size a cdv)) →
      FSs (cxOf CX0 P w K mg base N q (defScope st) a cdv A outer s H E).nox fr [] [] O' (defBody st) G) : FnOk P w K mg base CX0 (k + 1) a fd ps (spF K fr n (runD fr N' n G)) := by
  subst hN hn
  refine FunD.ok F S (fun vs H Q E h => ?_) (fun cdv A outer s H vs Q E hr h => ?_)
  · obtain ⟨φ, Hf, ds, d, _, r, hl, _⟩ := h
    exact r.length.symm.trans hl
  · obtain ⟨φ, Hf, ds, d, hs, r, hl, hm, hk⟩ := h
    refine ⟨_, PSs.nox pssW, ?_⟩
    have hvl : vs.length = ps.length := r.length.symm.trans hl
    unfold L2.start
    rw [hvl]
    unfold runD envOf at hm
    have S0 : SR K φ Hf H [] (ds.map some ++ List.replicate (N.length - ps.length) none) (vs.map some ++ List.replicate (N.length - ps.length) none) Hf H :=
      ⟨by simp [r.length], hs, Same.refl _, Same.refl _, fun _ _ _ z => z, fun i d e _ => r.val _ i d e, fun i d _ m => absurd m (by simp), fun i j _ _ _ _ _ m => absurd m (by simp)⟩
    split at hm
    · rename_i d' h'
      cases hm
      exact hb cdv A outer s H E hr φ Hf H _ _ Hf H _ _ S0 h' hk
    · rename_i ρ' h'
      cases fr with
      | false =>
        cases hm
        exact hb cdv A outer s H E hr φ Hf H _ _ Hf H _ _ S0 h' fun σ' Hf' H' s' S' => hk _ Hf' H' S'.from0 .non
      | true => cases hm
    · cases hm
theorem calM_of {N' n : Nat} (Dd : FnAt K m q st [] kws (He.fAd K (c, some m))) (hc : Cls K (He.ga K c)) (hm : Meth K (He.ga K c) m (He.ma K (He.ga K c) m)) (S : FnScope N ps (defScope st)) (hN : N' = N.length) (hn : n = ps.length)
    (hbind : ∀ (kV doc pm : Value) (an : Option Addr) (cdv ct : Value) (us : List Value), us.length = ps.length → bindArgs (PySem.W.fnOf m q (defArgs st) (defBody st) (defScope st) .none kV doc pm an cdv ct) ⟨us, []⟩ = pure (ps.zip us))
    {fr : Bool} (O' : List Nat)
    (hb : ∀ (cdv : Value) (A : Around) (outer : List PySem.Env) (s : Shared) (H : Hp) (E : XK), Room k (A.deeper (PyProof.Rows.envOfC q (defScope st) s.heap.objs.size (He.fAd K (c, some m)) cdv)) →
      FSs (cxOf CX0 P w K mg base N q (defScope st) (He.fAd K (c, some m)) cdv A outer s H E).nox fr [] [] O' (defBody st) G) : CalM P w K mg base (k + 1) c m fr n (runD fr N' n G) [] := by
  obtain ⟨fd, F⟩ := Dd
  exact ⟨_, fd, ps, [], [], fnOk_by F S hN hn O' hb, hc, hm, FunD.bindsN F hbind, .nil, fun _ _ => .nil⟩
end
/-! ### objects are made -/
/-! no object of a class in it -/
mutual
def clean : D → Bool
  | .tup xs => cleanAll xs | .lst xs => cleanAll xs | .klst xs => cleanAll xs | .ins _ _ _ => false | .dct _ xs => cleanAll xs | .dkt _ ks xs => cleanAll ks && cleanAll xs | .xtp xs => cleanAll xs | .obj _ => false | _ => true
def cleanAll : List D → Bool
  | [] => true
  | d :: ds => clean d && cleanAll ds
end
def off (x : Addr) (H : Hp) : Hp := fun a => if a = x then none else H a
theorem off_ne {x a : Addr} {H : Hp} (h : a ≠ x) : off x H a = H a := if_neg h
section
variable {K : PySem.W.Frag} {φ : Nat → Option Addr} {H : Hp} {x C dx : Addr} {fs : List (Str × V)}
theorem SqT_off (hx : H x = some (.ins C dx fs)) {a : Addr} {xs : List V} (h : SqT K H a xs) : SqT K (off x H) a xs := by
  rcases h with (h | ⟨o, h⟩) | h
  · have n : a ≠ x := by rintro rfl; rw [hx] at h; cases h
    exact .inl (.inl (by rw [off_ne n]; exact h))
  · have n : a ≠ x := by rintro rfl; rw [hx] at h; cases h
    exact .inl (.inr ⟨o, by rw [off_ne n]; exact h⟩)
  · exact .inr h
theorem SqL_off (hx : H x = some (.ins C dx fs)) {a : Addr} {xs : List V} (h : SqL K H a xs) : SqL K (off x H) a xs := by
  rcases h with (h | ⟨o, h⟩) | h
  · have n : a ≠ x := by rintro rfl; rw [hx] at h; cases h
    exact .inl (.inl (by rw [off_ne n]; exact h))
  · have n : a ≠ x := by rintro rfl; rw [hx] at h; cases h
    exact .inl (.inr ⟨o, by rw [off_ne n]; exact h⟩)
  · exact .inr h
theorem lst_off (hx : H x = some (.ins C dx fs)) {a : Addr} {xs : List V} (h : H a = some (.lst xs)) : off x H a = some (.lst xs) := by
  have n : a ≠ x := by rintro rfl; rw [hx] at h; cases h
  rw [off_ne n]; exact h
theorem dK_off (hx : H x = some (.ins C dx fs)) {a : Addr} {xs : List (Key × V)} (h : Rd H a (.dK xs)) : Rd (off x H) a (.dK xs) := by
  have n : a ≠ x := by
    rintro rfl
    rcases h with h | ⟨o, h⟩ <;> rw [hx] at h <;> cases h
  unfold Rd at h ⊢
  rw [off_ne n]; exact h
mutual
theorem Rp.off (hx : H x = some (.ins C dx fs)) : ∀ {d : D} {v : V}, clean d = true → Rp K φ H d v → Rp K φ (off x H) d v
  | .non, _, _, .non => .non
  | .bl _, _, _, .bl b => .bl b
  | .int _, _, _, .int i => .int i
  | .str _, _, _, .str y => .str y
  | .tup _, _, h, .tup s r => .tup (SqT_off hx s) (RpAll.off hx (by simpa [clean] using h) r)
  | .lst _, _, h, .lst s r => .lst (lst_off hx s) (RpAll.off hx (by simpa [clean] using h) r)
  | .klst _, _, h, .klst s r => .klst (SqL_off hx s) (RpAll.off hx (by simpa [clean] using h) r)
  | .obj _, _, h, _ => by simp [clean] at h
  | .ins _ _ _, _, h, _ => by simp [clean] at h
  | .dct _ _, _, h, .dct s l r => .dct (dK_off hx s) l (RpAll.off hx (by simpa [clean] using h) r)
  | .xtp _, _, h, .xtp s p r => .xtp (by rw [off_ne (fun z => by subst z; rw [s] at hx; cases hx)]; exact s) p (RpAll.off hx (by simpa [clean] using h) r)
  | .dkt _ _ _, _, h, .dkt s a b c d f g r t => .dkt (s.mono fun o e => by
      rw [off_ne (fun z => by
        subst z
        obtain ⟨v, s1, s2 | ⟨o, s2⟩⟩ := s.one <;> (subst s2; rw [s1] at hx; cases hx))]
      exact e) a b c d f g (RpAll.off hx (Bool.and_eq_true_iff.mp (show (cleanAll _ && cleanAll _) = true from h)).1 r) (RpAll.off hx (Bool.and_eq_true_iff.mp (show (cleanAll _ && cleanAll _) = true from h)).2 t)
theorem RpAll.off (hx : H x = some (.ins C dx fs)) : ∀ {ds : List D} {vs : List V}, cleanAll ds = true → RpAll K φ H ds vs → RpAll K φ (off x H) ds vs
  | [], _, _, .nil => .nil
  | _ :: _, _, h, .cons r t => by
    have h' := Bool.and_eq_true_iff.mp (show (clean _ && cleanAll _) = true from h)
    exact .cons (Rp.off hx h'.1 r) (RpAll.off hx h'.2 t)
end
end
/-! .. no object with just these attributes -/
mutual
def cleanX (fs : List Str) : D → Bool
  | .tup xs => cleanXs fs xs | .lst xs => cleanXs fs xs | .klst xs => cleanXs fs xs | .ins _ gs xs => !(decide (gs = fs)) && cleanXs fs xs | .dct _ xs => cleanXs fs xs | .dkt _ ks xs => cleanXs fs ks && cleanXs fs xs | .xtp xs => cleanXs fs xs | .obj _ => false | _ => true
def cleanXs (fs : List Str) : List D → Bool
  | [] => true
  | d :: ds => cleanX fs d && cleanXs fs ds
end
theorem zip_fst {α β : Type} : ∀ (xs : List α) (ys : List β), xs.length = ys.length → (xs.zip ys).map (·.1) = xs
  | [], [], _ => rfl
  | [], _ :: _, h => by simp at h
  | _ :: _, [], h => by simp at h
  | x :: xs, y :: ys, h => by simp [zip_fst xs ys (by simpa using h)]
section
variable {K : PySem.W.Frag} {φ : Nat → Option Addr} {H : Hp} {x C dx : Addr} {fs : List Str} {ws : List V}
mutual
theorem Rp.offX (hx : H x = some (.ins C dx (fs.zip ws))) (hl : fs.length = ws.length) : ∀ {d : D} {v : V}, cleanX fs d = true → Rp K φ H d v → Rp K φ (off x H) d v
  | .non, _, _, .non => .non
  | .bl _, _, _, .bl b => .bl b
  | .int _, _, _, .int i => .int i
  | .str _, _, _, .str y => .str y
  | .tup _, _, h, .tup s r => .tup (SqT_off hx s) (RpAll.offX hx hl (by simpa [cleanX] using h) r)
  | .lst _, _, h, .lst s r => .lst (lst_off hx s) (RpAll.offX hx hl (by simpa [cleanX] using h) r)
  | .klst _, _, h, .klst s r => .klst (SqL_off hx s) (RpAll.offX hx hl (by simpa [cleanX] using h) r)
  | .obj _, _, h, _ => by simp [cleanX] at h
  | .ins _ gs ys, _, h, .ins (a := a) s l r => by
    have h' : ¬ gs = fs ∧ cleanXs fs ys = true := by simpa [cleanX] using h
    have n : a ≠ x := by
      rintro rfl
      rw [hx] at s
      injection s with s
      injection s with _ _ s
      have e := congrArg (List.map (·.1)) s
      rw [zip_fst _ _ hl, zip_fst _ _ l] at e
      exact h'.1 e.symm
    exact .ins (by rw [off_ne n]; exact s) l (RpAll.offX hx hl h'.2 r)
  | .dct _ _, _, h, .dct s l r => .dct (dK_off hx s) l (RpAll.offX hx hl (by simpa [cleanX] using h) r)
  | .xtp _, _, h, .xtp s p r => .xtp (by rw [off_ne (fun z => by subst z; rw [s] at hx; cases hx)]; exact s) p (RpAll.offX hx hl (by simpa [cleanX] using h) r)
  | .dkt _ _ _, _, h, .dkt s a b c d f g r t => .dkt (s.mono fun o e => by
      rw [off_ne (fun z => by
        subst z
        obtain ⟨v, s1, s2 | ⟨o, s2⟩⟩ := s.one <;> (subst s2; rw [s1] at hx; cases hx))]
      exact e) a b c d f g (RpAll.offX hx hl (Bool.and_eq_true_iff.mp (show (cleanXs fs _ && cleanXs fs _) = true from h)).1 r) (RpAll.offX hx hl (Bool.and_eq_true_iff.mp (show (cleanXs fs _ && cleanXs fs _) = true from h)).2 t)
theorem RpAll.offX (hx : H x = some (.ins C dx (fs.zip ws))) (hl : fs.length = ws.length) : ∀ {ds : List D} {vs : List V}, cleanXs fs ds = true → RpAll K φ H ds vs → RpAll K φ (off x H) ds vs
  | [], _, _, .nil => .nil
  | _ :: _, _, h, .cons r t => by
    have h' := Bool.and_eq_true_iff.mp (show (cleanX fs _ && cleanXs fs _) = true from h)
    exact .cons (Rp.offX hx hl h'.1 r) (RpAll.offX hx hl h'.2 t)
end
end
structure Tr (x : Addr) (Hf H Hf' H' : Hp) : Prop where
  f : Same Hf Hf'
  h : ∀ a o, a ≠ x → H a = some o → H' a = some o
  n : ∀ a o, a ≠ x → H a = some o → Hf a = none → Hf' a = none
theorem Tr.refl {x : Addr} {Hf H : Hp} : Tr x Hf H Hf H := ⟨Same.refl _, fun _ _ _ h => h, fun _ _ _ _ h => h⟩
theorem Tr.trans {x : Addr} {Hf H Hf1 H1 Hf2 H2 : Hp} (a : Tr x Hf H Hf1 H1) (b : Tr x Hf1 H1 Hf2 H2) : Tr x Hf H Hf2 H2 :=
  ⟨a.f.trans b.f, fun y o h1 h2 => b.h y o h1 (a.h y o h1 h2), fun y o h1 h2 h3 => b.n y o h1 (a.h y o h1 h2) (a.n y o h1 h2 h3)⟩
def iniF (c : Str) : List (Str × (Env → Option D)) → List Str → List D → Env → Option (List D)
  | [], _, xs, _ => some xs
  | (f, F) :: r, fs, xs, ρ => match F (some (.ins c fs xs) :: ρ) with
    | some d => if (clean d && (!fs.contains f && decide (fs.length < 500))) = true then iniF c r (fs ++ [f]) (xs ++ [d]) ρ else if (cleanX fs d && (!fs.contains f && decide (fs.length < 500))) = true then iniF c r (fs ++ [f]) (xs ++ [d]) ρ else none
    | none => none
def FIn (X : Cx) (c : Str) : List (Str × (Env → Option D)) → List Stmt → Prop
  | [], sts => sts = []
  | (f, F) :: r, sts => ∃ (e : Expr) (self : Str) (p1 p2 p3 : Pos) (rest : List Stmt), sts = .Assign [.Attribute (.Name self p1) f p2] e p3 :: rest ∧ FE X [] e F ∧ X.N[0]? = some self ∧ Vis X.env.scope self ∧ (self == ("__debug__" : Str)) = false ∧ (self == ("__classdict__" : Str)) = false ∧ NoAttr X.K (He.ga X.K c) f ∧
      swapsWith e (some (.Attribute (.Name self p1) f p2)) p3.line X.env = pure false ∧ FIn X c r rest
section
variable {X : Cx} {c : Str}
end
def spI (K : PySem.W.Frag) (c : Str) (fs : List Str) (n : Nat) (mi : List D → Option (List D)) : Sp := fun vs H Q _ => ∃ (φ : Nat → Option Addr) (Hf : Hp) (x dx : Addr) (us : List V) (ds out : List D), vs = .ref x :: us ∧ H x = some (.ins (He.ga K c) dx []) ∧ Hf x = none ∧ Same Hf H ∧ RpAll K φ Hf ds us ∧ ds.length = n ∧ mi ds = some out ∧
  ∀ Hf' H' ws, Tr x Hf H Hf' H' → Same Hf' H' → Hf' x = none → H' x = some (.ins (He.ga K c) dx (fs.zip ws)) → fs.length = ws.length → RpAll K φ Hf' out ws → Q .non H'
def runI (c : Str) (N n : Nat) (st : List (Str × (Env → Option D))) (ds : List D) : Option (List D) := iniF c st [] [] (ds.map some ++ List.replicate (N - (n + 1)) none)
structure CalC (P : Program) (w : World) (K : PySem.W.Frag) (mg : Str → Option Value) (base : Heap) (k : Nat) (c : Str) (fs : List Str) (n : Nat) (mi : List D → Option (List D)) : Prop where
  ok : ∃ (f : Addr) (fd : FuncData) (ps : List Str), FnOk P w K mg base CX0 k f fd ps (spI K c fs n mi) ∧ Mk K (He.ga K c) f ∧ mg c = some (.ref (He.ga K c)) ∧ Binds K fd ps []
section
variable {P : Program} {w : World} {K : PySem.W.Frag} {mg : Str → Option Value} {base : Heap} {k : Nat} {ps N : List Str} {q c : Str} {st : Stmt} {steps : List (Str × (Env → Option D))}
end
section
variable {X : Cx} {O : List Nat} {e : Expr} {es : List Expr} {c : Str} {p pos : Pos} {Fs : Env → Option (List D)} {k j n : Nat} {fs : List Str} {mi : List D → Option (List D)}
def eMk (c : Str) (fs : List Str) (n : Nat) (mi : List D → Option (List D)) (Fs : Env → Option (List D)) : Env → Option D := fun ρ => match Fs ρ with
  | some ds => if ds.length = n then (match mi ds with | some xs => some (.ins c fs xs) | none => none) else none
  | none => none
end
end FL
namespace FL
variable [HW]
open PySem PySem.Spec L2

/-! ### tuple(d), d a dict of any keys -/
section
variable {prog : Program} {w : World} {A : Around} {E : Value → Shared → Prop} {s : Shared} {d : Addr} {es : Array DictEntry} {ep : Nat}
theorem dict_hint {Q : Bool → Shared → Prop} (hT : s.TypeIs (.ref d) "dict") (h : Q false s) : wpAny (model prog w) A (Builtin.List.listLengthHint (.ref d)) Q E s := by
  unfold Builtin.List.listLengthHint
  refine wpAny_bind (wpAny_specialOf hT F.slot_dict_len.lookup ?_)
  generalize hid : ("dict.__len__" : String) = name
  wp_delta
  rw [show splitId name = some ("dict", "__len__") from by subst hid; decide +kernel]
  subst hid
  refine wpAny_bind (wpAny_isInstance (T := "dict") (b := true) hT (by rw [isSubtype_type]; kernel_rfl) ?_)
  refine wpAny_ite_split (fun z => absurd z (by decide)) (fun _ => ?_)
  refine wpAny_ite_split (fun _ => ?_) (fun z => absurd (by decide +kernel) z)
  exact wpAny_bind (wpAny_typeOf hT (wpAny_pure h))
theorem dict_collect {Q : List Value → Shared → Prop} (hh : A.handled = none) (hd : (d == sysModules) = false) (hm : s.heap.DictRaw d es ep) (hn : es.size ≤ sizeLine)
    (hQ : ∀ (h' : Heap) (tk : Nat) (acc : Array Value), (∀ b o, s.heap.get? b = some o → h'.get? b = some o) → s.heap.objs.size < h'.objs.size → ItemsOf (fun i v => ∃ hi : i < es.size, v = es[i].key) acc es.size → Q acc.toList { s with heap := h', toks := tk }) : wpAny (model prog w) A (collect (.ref d)) Q E s := by
  have hdl : d < s.heap.objs.size := let ⟨_, ho, _⟩ := hm; Heap.lt_size ho
  unfold collect
  apply wpAny_bind
  apply wpAny_runValue
  apply codeAny_builtin F.entry_proto_collect
  rw [Around.under_plainId F.plain_proto_collect _]
  change wpAny _ A.in1 (newList [] >>= fun l => again (.builtin "list.__iadd__" ⟨[l, .ref d], []⟩)) _ _ s
  apply wpAny_bind
  refine wpAny_newObj_type ?_
  refine wpAny_pure ⟨plainId_quiet F.plain_list_iadd _, codeAny_builtin F.entry_list_iadd ?_⟩
  rw [Around.under_plainId F.plain_list_iadd _]
  generalize hS : s.heap.objs.size = S
  have hdS : d < S := hS ▸ hdl
  have hSd : S ≠ d := Nat.ne_of_gt hdS
  generalize h1e : s.heap.push { cls := .type "list", data := .seq ([] : List Value).toArray } = h1
  have e1 : h1.get? S = some { cls := .type "list", data := .seq #[] } := by rw [← h1e, ← hS]; exact Heap.get?_push_size _ rfl
  have k1 : ∀ b o, s.heap.get? b = some o → h1.get? b = some o := fun b o z => by rw [← h1e]; exact Heap.get?_push_of_some _ z
  have m1 : h1.DictRaw d es ep := hm.at fun o z => k1 d o z
  have sz1 : h1.objs.size = S + 1 := by rw [← h1e, Heap.size_push, hS]
  change wpAny _ A.in1 (Builtin.List.listExtendWith (.ref S) (.ref d) (.ref S)) _ _ _
  unfold Builtin.List.listExtendWith
  refine wpAny_bind (wpAny_typeOf (T := "dict") (Heap.DictRaw.typeIs (s := { s with heap := h1 }) m1) ?_)
  rw [if_neg (by simp [Builtin.List.listSameRef, hSd])]
  refine wpAny_bind (wpAny_pyIter_dict_raw (s := { s with heap := h1 }) hd m1 ?_)
  generalize hI : ({ s with heap := h1 } : Shared).heap.objs.size = I
  have eI : I = S + 1 := by rw [← hI]; exact sz1
  generalize h2e : ({ s with heap := h1 } : Shared).heap.push { cls := .type "dict_keyiterator", data := .fields #[.ref d, .int 0 0, .int es.size 0, .int ep 0] } = h2
  have k2 : ∀ b o, h1.get? b = some o → h2.get? b = some o := fun b o z => by rw [← h2e]; exact Heap.get?_push_of_some _ z
  have i2 : h2.IsKeyIter I d 0 es.size ep := ⟨_, by rw [← h2e, ← hI]; exact Heap.get?_push_size _ rfl, rfl, rfl⟩
  have m2 : h2.DictRaw d es ep := m1.at fun o z => k2 d o z
  refine wpAny_bind (wpAny_holding (dict_hint (Heap.DictRaw.typeIs (s := { s with heap := h2 }) m2) ?_))
  have hId : d ≠ I := by rw [eI]; exact Nat.ne_of_lt (Nat.lt_succ_of_lt hdS)
  have hIS : S ≠ I := by rw [eI]; exact Nat.ne_of_lt (Nat.lt_succ_self S)
  -- the loop
  have loop : ∀ (h : Heap) (c : Nat), (∀ b o, b ≠ S → h2.get? b = some o → h.get? b = some o) → h.get? S = some { cls := .type "list", data := .seq #[] c } →
      codeAny (model prog w) A (.builtin "list.extend.loop" ⟨[.ref S, .ref I, .ref S], []⟩) (fun r s' => r = .ok (.ret (.ref S)) ∧ ∃ (h' : Heap) (tk : Nat) (acc : Array Value) (c' : Nat), s' = { s with heap := h', toks := tk } ∧
        (∀ b o, s.heap.get? b = some o → h'.get? b = some o) ∧ h'.get? S = some { cls := .type "list", dict := none, data := .seq acc c', slots := #[] } ∧ ItemsOf (fun i v => ∃ hi : i < es.size, v = es[i].key) acc es.size) { s with heap := h } := by
    intro h c kh eh
    have W := (Walks.rawKeys (prog := prog) (w := w) (A := A.in1) hh I d hId es ep).toS
    refine codeAny_extend_loopS W hn S (by simp [hIS, hSd]) (.ref S) es.size 0 { s with heap := h } #[] c (Nat.sub_zero _) (Nat.zero_le _) ⟨i2.at fun o z => kh I o (Ne.symm hIS) z, m2.at fun o z => kh d o (Ne.symm hSd) z⟩ eh (ItemsOf.nil _) ?_
    intro s' acc c' mv e' hacc
    obtain ⟨mh, mg, md, mo, _⟩ := mv
    obtain ⟨hp, gn, dr, tk, os⟩ := s'
    refine ⟨rfl, hp, tk, acc, c', ?_, fun b o z => ?_, e', hacc⟩
    · cases mg; cases md; cases mo; rfl
    · have hb : b < S := hS ▸ Heap.lt_size z
      have n1 : b ≠ S := Nat.ne_of_lt hb
      have n2 : b ≠ I := by rw [eI]; exact Nat.ne_of_lt (Nat.lt_succ_of_lt hb)
      exact mh b o (by simp [n1, n2]) (kh b o n1 (k2 b o (k1 b o z)))
  have e2 : h2.get? S = some { cls := .type "list", data := .seq #[] } := k2 S _ e1
  refine wpAny_ite_split (fun _ => ?_) (fun _ => ?_)
  · refine wpAny_bind (wpAny_rule (wpAny_bind ?_))
    change wpAny _ _ (updateSeq S (·.push .none) >>= fun _ => updateSeq S (·.pop)) _ _ _
    refine wpAny_bind (wpAny_updateSeq e2 rfl ?_)
    have e3 := Heap.get?_update_self (Obj.mapSeq (·.push Value.none)) e2 rfl
    refine wpAny_updateSeq (hz := by seq_fits) e3 rfl ?_
    have e4 := Heap.get?_update_self (Obj.mapSeq (·.pop)) e3 rfl
    refine wpAny_pure ⟨plainId_quiet F.plain_extend_loop _, ?_⟩
    refine codeAny_mono (loop _ _ (fun b o n z => ?_) e4) fun r s' z => ?_
    · exact (Heap.get?_update_other _ _ (Ne.symm n)).trans ((Heap.get?_update_other _ _ (Ne.symm n)).trans z)
    · obtain ⟨rfl, h', tk, acc, c', rfl, hk, eS, hi⟩ := z
      change wpAny _ A (load S >>= _) _ _ _
      exact wpAny_bind (wpAny_load eS (wpAny_pure (hQ h' tk acc hk (hS ▸ Heap.lt_size eS) hi)))
  · refine wpAny_pure ⟨plainId_quiet F.plain_extend_loop _, ?_⟩
    refine codeAny_mono (loop h2 _ (fun b o _ z => z) e2) fun r s' z => ?_
    obtain ⟨rfl, h', tk, acc, c', rfl, hk, eS, hi⟩ := z
    change wpAny _ A (load S >>= _) _ _ _
    exact wpAny_bind (wpAny_load eS (wpAny_pure (hQ h' tk acc hk (hS ▸ Heap.lt_size eS) hi)))
theorem dict_tuple {Q : Value → Shared → Prop} (hh : A.handled = none) (hd : (d == sysModules) = false) (hm : s.heap.DictRaw d es ep) (hn : es.size ≤ sizeLine)
    (hQ : ∀ (h' : Heap) (tk : Nat) (acc : Array Value), (∀ b o, s.heap.get? b = some o → h'.get? b = some o) → s.heap.objs.size < h'.objs.size → ItemsOf (fun i v => ∃ hi : i < es.size, v = es[i].key) acc es.size →
      Q (.ref h'.objs.size) { s with heap := h'.push { cls := .type "tuple", data := .seq acc }, toks := tk }) : wpAny (model prog w) A (call (.type "tuple") [.ref d]) Q E s := by
  refine callType_codes (Q₁ := fun obj s₁ => s₁.TypeIs obj "tuple" ∧ Q obj s₁) F.called_tuple (F.typeCall_tuple_1 _) F.entry_object_init ?_ fun obj s₁ z => ?_
  · apply codeAny_of_tree
    change wpAny _ A.in1.in1 (do checkBuiltinCall "tuple.__new__" ⟨[.type "tuple", .ref d], []⟩; again (.builtin "tuple.__new__" ⟨[.type "tuple", .ref d], []⟩)) _ _ s
    apply wpAny_bind
    refine wpAny_of_eq (F.newCall_tuple_1 _) (wpAny_pure ⟨plainId_quiet F.plain_tuple_new _, codeAny_builtin F.entry_tuple_new ?_⟩)
    rw [Around.under_plainId F.plain_tuple_new _]
    have q1 := sub_tuple_self
    have q2 := init_tuple_lookup
    have q3 := madeHere_tuple
    have q4 := hm.typeIs
    have q5 : A.in1.in1.handled = none := hh
    wp_walk using wpAny_typeOf q4, dict_collect (A := A.in1.in1) q5 hd hm hn
    intro h' tk acc hk hlt hi
    change wpAny _ _ (Builtin.Tuple.tupleExact acc.toList.toArray >>= fun v => ret v) _ _ _
    unfold Builtin.Tuple.tupleExact
    have e : acc.toList.toArray = acc := by simp
    rw [e]
    refine wpAny_bind (wpAny_newObj_type ?_ (by show acc.size ≤ sizeLine; rw [hi.1]; exact hn))
    exact wpAny_pure ⟨⟨_, Heap.get?_push_size _ rfl, rfl⟩, hQ h' tk acc hk hlt hi⟩
  · exact ⟨z.1, F.args_object_init_2 obj _, object_init_meets F.called_tuple.init.lookup F.called_tuple.made (by decide) prog w A.in1 _ s₁ ⟨z.1, rfl, z.2⟩⟩
end
end FL
namespace FL
variable [HW]
open PySem PySem.Spec L2 PyProof.Rows

/-! ### dicts whose keys are tuples of texts, ints and such tuples -/
mutual
def nkD : D → Option NestedKey
  | .str x => some (.text x)
  | .int i => some (.num i)
  | .tup ds => (match nkAll ds with | some ks => some (.tup ks) | none => none)
  | _ => none
def nkAll : List D → Option (List NestedKey)
  | [] => some []
  | d :: ds => (match nkD d with | some k => (match nkAll ds with | some ks => some (k :: ks) | none => none) | none => none)
end
section
variable {X : Cx} {pins : List (Addr × Obj)} {σ : L2.St} {H : Hp} {s : Shared} {φ : Nat → Option Addr}
mutual
theorem nk_is (I : Inv X pins σ H s) : ∀ {d : D} {v : V} {u : Value} {k : NestedKey}, nkD d = some k → Rp X.K φ H d v → RelV v u → NestedIs s.heap k u
  | .str x, _, _, _, h, .str _, r => by
    cases h
    obtain ⟨t, rfl⟩ := r
    exact .text x t
  | .int i, _, _, _, h, .int _, r => by
    cases h
    obtain ⟨t, rfl⟩ := r
    exact .int i t
  | .tup ds, _, _, _, h, .tup (a := a) (vs := vs) q t, r => by
    unfold nkD at h
    split at h
    · rename_i ks hk
      cases h
      cases r
      obtain ⟨its, rv, ⟨o, h1, h2, n, h3⟩, hz⟩ := I.tuple q
      exact .tup h1 h2 h3 (nkAll_is I hk t rv)
    · cases h
  | .non, _, _, _, h, _, _ => by cases h
  | .bl _, _, _, _, h, _, _ => by cases h
  | .lst _, _, _, _, h, _, _ => by cases h
  | .klst _, _, _, _, h, _, _ => by cases h
  | .obj _, _, _, _, h, _, _ => by cases h
  | .ins _ _ _, _, _, _, h, _, _ => by cases h
  | .dct _ _, _, _, _, h, _, _ => by cases h
  | .dkt _ _ _, _, _, _, h, _, _ => by cases h
  | .xtp _, _, _, _, h, _, _ => by cases h
theorem nkAll_is (I : Inv X pins σ H s) : ∀ {ds : List D} {vs : List V} {us : List Value} {ks : List NestedKey}, nkAll ds = some ks → RpAll X.K φ H ds vs → Vals vs us → NestedAll s.heap ks us
  | [], _, _, _, h, .nil, r => by
    cases h
    cases r
    exact .nil
  | d :: ds, _, _, _, h, .cons q t, .cons r rs => by
    unfold nkAll at h
    split at h
    · rename_i k hk
      split at h
      · rename_i ks hks
        cases h
        exact .cons (nk_is I hk q r) (nkAll_is I hks t rs)
      · cases h
    · cases h
end
end
def nkO (P : Program) (w : World) (D : Addr) (xs : List (NestedKey × Addr × Value)) : HO := .ext fun h => (D == sysModules) = false ∧ ∃ o es ep, h.get? D = some o ∧ o.ExactDict ∧ o.data = .dict es ep ∧ es.toList = xs.map (entryOfKey (nestedKind P w))
def KeyAt (K : PySem.W.Frag) (H : Hp) (k : NestedKey) (a : Addr) : Prop := k.depth ≤ 8 ∧ ∃ φ d, nkD d = some k ∧ Rp K φ H d (.ref a)
section
variable {X : Cx} {pins : List (Addr × Obj)} {σ : L2.St} {H : Hp} {s : Shared} {E : Value → Shared → Prop}
theorem KeyAt.is {k : NestedKey} {a : Addr} (I : Inv X pins σ H s) (q : KeyAt X.K H k a) : (nestedKind X.prog X.w).is s.heap k a := by
  obtain ⟨hd, φ, d, h1, h2⟩ := q
  exact ⟨nk_is I h1 h2 rfl, hd⟩
end
def tPut (P : Program) (w : World) (K : PySem.W.Frag) (tk tv : TE) (D : Addr) (Nx : Hp → Prop) : L2.St → Hp → Prop := fun σ H => tk σ H fun y H4 => tv σ H4 fun _ H5 => ∃ xs k a, y = .ref a ∧ H5 D = some (nkO P w D xs) ∧ xs.length < sizeLine ∧ KeyAt K H5 k a ∧ (∀ x ∈ xs, KeyAt K H5 x.1 x.2.1) ∧ (xs.map (·.1)).Nodup ∧
  ∀ r, Nx (upd H5 D (nkO P w D (storedH xs k a r)))
def tDcN (P : Program) (w : World) (K : PySem.W.Frag) (l : Lv) (tk tv : TE) : TE := fun σ H Q => l.wi σ H fun J H1 => ∀ D, H1 D = none → Walk l (tPut P w K tk tv D) J (fun H => Q (.ref D) H) σ (upd H1 D (nkO P w D []))
section
variable {X : Cx} {kx vx tg iter : Expr} {ifs : List Expr} {scope : Scope} {own : List (Str × Nat)} {pos : Pos} {tk tv : TE} {ce : PySem.Env} {D : Addr} {s3 : Shared} {H3 : Hp} {fp : List Addr}
end
end FL
namespace FL
variable [HW]
open PySem PySem.Spec L2
/-! ### tuple({x: True for x in ..}) -/
def dedG : List D → List (NestedKey × D) → Option (List (NestedKey × D))
  | [], acc => some acc
  | d :: ds, acc => match nkD d with
    | some k => if (isTup d && (decide (k.depth ≤ 8) && decide (acc.length < 100000))) = true then dedG ds (if (acc.any fun q => NestedKey.beq q.1 k) = true then acc else acc ++ [(k, d)]) else none
    | none => none
def eDed (i0 : Nat) (Fi : Env → Option (List D)) : Env → Option D := fun ρ => match Fi ρ with
  | some ds => if i0 < ρ.length then (match dedG ds [] with | some acc => some (.tup (acc.map (·.2))) | none => none) else none
  | none => none
inductive Mt (K : PySem.W.Frag) (φ : Nat → Option Addr) (Hf : Hp) : List (NestedKey × D) → List (NestedKey × Addr × Value) → Prop
  | nil : Mt K φ Hf [] []
  | cons {k d a v acc xs} : nkD d = some k → k.depth ≤ 8 → Rp K φ Hf d (.ref a) → Mt K φ Hf acc xs → Mt K φ Hf ((k, d) :: acc) ((k, a, v) :: xs)
section
variable {K : PySem.W.Frag} {φ : Nat → Option Addr} {Hf Hf' H : Hp}
theorem Mt.mono (s : Same Hf Hf') : ∀ {acc : List (NestedKey × D)} {xs : List (NestedKey × Addr × Value)}, Mt K φ Hf acc xs → Mt K φ Hf' acc xs
  | _, _, .nil => .nil
  | _, _, .cons a b c t => .cons a b (c.mono s) (Mt.mono s t)
theorem Mt.length : ∀ {acc : List (NestedKey × D)} {xs : List (NestedKey × Addr × Value)}, Mt K φ Hf acc xs → acc.length = xs.length
  | _, _, .nil => rfl
  | _, _, .cons _ _ _ t => by simp [Mt.length t]
theorem Mt.keys : ∀ {acc : List (NestedKey × D)} {xs : List (NestedKey × Addr × Value)}, Mt K φ Hf acc xs → xs.map (·.1) = acc.map (·.1)
  | _, _, .nil => rfl
  | _, _, .cons _ _ _ t => by simp [Mt.keys t]
theorem Mt.at (s : Same Hf H) : ∀ {acc : List (NestedKey × D)} {xs : List (NestedKey × Addr × Value)}, Mt K φ Hf acc xs → ∀ x ∈ xs, KeyAt K H x.1 x.2.1
  | _, _, .nil, x, h => by cases h
  | _, _, .cons a b c t, x, h => by
    rcases List.mem_cons.mp h with rfl | h
    · exact ⟨b, φ, _, a, c.mono s⟩
    · exact Mt.at s t x h
theorem Mt.old {k : NestedKey} {v : Value} : ∀ {acc : List (NestedKey × D)} {xs : List (NestedKey × Addr × Value)}, Mt K φ Hf acc xs → Mt K φ Hf acc (xs.map (putAt k v))
  | _, _, .nil => .nil
  | _, _, .cons (k := k') (a := a) a1 b c t => by
    rw [List.map_cons]
    unfold putAt
    split
    · exact .cons a1 b c (Mt.old t)
    · exact .cons a1 b c (Mt.old t)
end
/-! tuple(d) -/
def rTupN (P : Program) (w : World) : List V → Hp → VK → Prop := fun vs H Q => ∃ a xs, vs = [.ref a] ∧ H a = some (nkO P w a xs) ∧ xs.length ≤ sizeLine ∧ ∀ q, H q = none → Q (.ref q) (upd H q (.tup (xs.map fun x => V.ref x.2.1)))
section
variable {X : Cx} {O O2 : List Nat} {kx vx tg iter : Expr} {x : Str} {scope : Scope} {own : List (Str × Nat)} {p pos dpos : Pos} {Fi : Env → Option (List D)} {V0 : Env → Option D} {i0 : Nat}
end
end FL
namespace FL
variable [HW]
open PySem
/-! ### rows of words, and rules made of them -/
abbrev Strs (zs : List Str) : List D := zs.map D.str
def inS (M : Str) (zs : List Str) : Bool := (Strs zs).any fun z => deq z (.str M)
structure Rl where
  k : Str
  a : List Str
  b : List Str
def encRl (r : Rl) : D := .tup [.str r.k, .tup (Strs r.a), .tup (Strs r.b)]
def subS (xs ys : List Str) : Bool := xs.all fun w => inS w ys
/-! without doubles -/
def nkR (r : Rl) : NestedKey := .tup [.text r.k, .tup (r.a.map NestedKey.text), .tup (r.b.map NestedKey.text)]
def prR (r : Rl) : NestedKey × D := (nkR r, encRl r)
/-! a loop that gives the first item -/
def encO : Option Rl → D
  | some r => encRl r
  | none => .non
end FL
namespace FL
variable [HW]
open PySem PySem.Spec L2

/-! ### what a class of our own makes of operators -/
theorem insAt {X : Cx} {pins : List (Addr × Obj)} {σ : L2.St} {H : Hp} {s : Shared} {a C dx : Addr} {gs : List (Str × V)} (I : Inv X pins σ H s) (h : H a = some (.ins C dx gs)) : ∃ ox od, PySem.W.InstAt s.heap a ox C od := by
  obtain ⟨_, T, _⟩ := ins_get I.hok h
  obtain ⟨_, J, _⟩ := T.look
  exact ⟨_, _, J⟩
section
variable {X : Cx} {O : List Nat} {c : Str} {j k : Nat} {mir : List D → Option D}
theorem me_run {A : Around} {m : Str} {n : Nat} {f : Addr} {fd : FuncData} {ps : List Str} (Fn : FnOk X.prog X.w X.K X.mg X.base CX0 j f fd ps (spF X.K false n mir)) (hb : Binds X.K fd ps [])
    {pins : List (Addr × Obj)} {σ : L2.St} {H : Hp} {s : Shared} {vs : List V} {us : List Value} {Q : VK} (hr : Room j A) (e0 : Env0 X.prog X.w X.K X.mg X.base A X.stack s H) (I : Inv X pins σ H s) (r : Vals vs us) (q : spF X.K false n mir vs H Q fun _ _ _ => False) :
    wpAny (model X.prog X.w) A (call (.ref f) us) (EP X pins σ Q) X.xe s := by
  have l : us.length = ps.length := by rw [← r.length]; exact Fn.len _ _ _ _ q
  have b := hb s us I.kIn (by rw [List.append_nil]; exact l)
  rw [List.append_nil] at b
  refine wpAny_call (codeAny_mono (Fn.run A X.stack s H ⟨us, []⟩ us vs Q _ hr e0 b r q) fun z s' hz => ?_)
  match z, hz with
  | .ok (.ret u), hz => exact I.after hz
  | .error _, hz => exact False.elim hz
def opI (c : Str) (mir : List D → Option D) : D → D → Option D := fun x y => match x, y with
  | .ins c1 f1 x1, .ins c2 f2 x2 => if c1 = c ∧ c2 = c then mir [.ins c1 f1 x1, .ins c2 f2 x2] else none
  | _, _ => none
def rMe (K : PySem.W.Frag) (c : Str) (mir : List D → Option D) : R2 := fun x y H Q => ∃ a dx gs b dy hs, x = .ref a ∧ y = .ref b ∧ H a = some (.ins (He.ga K c) dx gs) ∧ H b = some (.ins (He.ga K c) dy hs) ∧ spF K false 2 mir [x, y] H Q fun _ _ _ => False
theorem calM_nil {m : Str} {n : Nat} (cm : CalM X.prog X.w X.K X.mg X.base j c m false n mir []) : ∃ (f : Addr) (fd : FuncData) (ps : List Str), FnOk X.prog X.w X.K X.mg X.base CX0 j f fd ps (spF X.K false n mir) ∧ Cls X.K (He.ga X.K c) ∧ Meth X.K (He.ga X.K c) m f ∧ Binds X.K fd ps [] := by
  obtain ⟨f, fd, ps, us, dvs, Fn, hc, hm, hb, hd, hdf⟩ := cm.ok
  have h1 : dvs = [] := by cases hdf (fun _ => none) (fun _ => none); rfl
  subst h1
  have h2 : us = [] := by cases hd; rfl
  subst h2
  exact ⟨f, fd, ps, Fn, hc, hm, hb⟩
/-! x in o -/
def inI (c : Str) (mir : List D → Option D) (neg : Bool) : D → D → Option D := fun x y => match x with
  | .lst _ => none
  | x => (match y with
    | .ins c2 f2 x2 => if c2 = c then (match mir [.ins c2 f2 x2, x] with | some (.bl t) => some (.bl (neg != t)) | _ => none) else none
    | _ => none)
theorem inI_some {neg : Bool} {x y d : D} (h : inI c mir neg x y = some d) : ∃ f2 x2 t, y = .ins c f2 x2 ∧ mir [y, x] = some (.bl t) ∧ d = .bl (neg != t) ∧ isLst x = isLst x ∧ ∀ xs, x ≠ .lst xs := by
  unfold inI at h
  split at h
  · cases h
  · rename_i hn
    split at h
    · split at h
      · rename_i hc
        subst hc
        split at h
        · rename_i t ht
          cases h
          exact ⟨_, _, t, rfl, ht, rfl, rfl, hn⟩
        · cases h
      · cases h
    · cases h
def rIn (K : PySem.W.Frag) (c : Str) (mir : List D → Option D) (neg : Bool) : R2 := fun x y H Q => ∃ b dy hs, y = .ref b ∧ H b = some (.ins (He.ga K c) dy hs) ∧ spF K false 2 mir [y, x] H (fun z H' => ∃ t, z = .bl t ∧ Q (.bl (neg != t)) H') fun _ _ _ => False
theorem op_inI (cm : CalM X.prog X.w X.K X.mg X.base j c "__contains__" false 2 mir []) (hr : Room k X.A) (hk : j ≤ k) : OpR X (compareOp .In) (rIn X.K c mir false) := by
  obtain ⟨f, fd, ps, Fn, hc, hm, hb⟩ := calM_nil cm
  intro pins s σ H x y v u Q I rx ry h
  obtain ⟨b, dy, hs, rfl, h2, q⟩ := h
  cases ry
  obtain ⟨ox', od', J'⟩ := insAt I h2
  obtain ⟨m, hF⟩ := I.fr
  refine PySem.W.in_K hF I.ok.mod.kin J' hm.at_ hm.fn ?_
  refine wpAny_mono (me_run (m := c) (vs := [.ref b, x]) (us := [.ref b, v]) Fn hb (hr.mono hk) I.env0 I (.cons rfl (.cons rx .nil)) q) (fun w s' z => ?_) fun _ _ z => z
  obtain ⟨z', H', I', rz, t, rfl, qz⟩ := z
  cases rz
  exact wpAny_of_eq (a := t) rfl ⟨.bl t, H', I', rfl, by simpa using qz⟩
theorem o_inI {neg : Bool} : Op2 X.K (rIn X.K c mir neg) (inI c mir neg) := by
  intro φ Hf H x y d v u Q s rx ry h q
  obtain ⟨f2, x2, t, rfl, h2, rfl, _, hn⟩ := inI_some h
  rcases rx with rx | ⟨_, xs, _, e, _⟩
  · rcases ry with ry | ⟨_, _, _, e, _⟩
    · cases ry with
      | ins ha' hl' r' =>
        refine ⟨_, _, _, rfl, s _ _ ha', φ, Hf, _, _, s, .cons (.ins ha' hl' r') (.one rx), rfl, h2, fun z Hf2 H2 g2 r2 => ?_⟩
        cases r2
        exact ⟨t, rfl, q _ Hf2 H2 g2 (.bl _)⟩
    · cases e
  · exact absurd e (hn xs)
/-! len(o) -/
def lenI (c : Str) (mir : List D → Option D) : List D → Option D := fun xs => match xs with
  | [.ins c1 f1 x1] => if c1 = c then (match mir [.ins c1 f1 x1] with | some (.int n) => if 0 ≤ n ∧ n < 2 ^ 63 then some (.int n) else none | _ => none) else none
  | _ => none
def rLenI (K : PySem.W.Frag) (c : Str) (mir : List D → Option D) : List V → Hp → VK → Prop := fun xs H Q => ∃ a dx gs, xs = [.ref a] ∧ H a = some (.ins (He.ga K c) dx gs) ∧ spF K false 1 mir xs H (fun z H' => ∃ n : Int, z = .int n ∧ 0 ≤ n ∧ n < 2 ^ 63 ∧ Q (.int n) H') fun _ _ _ => False
end
end FL
namespace FL
variable [HW]
open PySem PySem.Spec PyProof.Rows L2

/-! ### for x in o, o of a class of our own whose __iter__ gives a tuple's iterator -/
theorem run_here {P : Program} {w : World} {K : PySem.W.Frag} {mg : Str → Option Value} {base : Heap} {k : Nat} {f : Addr} {fd : FuncData} {x q : Str} {st : Stmt} {dvs : List V} {kws : List (Str × V)} {N ps : List Str}
    (F : FunD K x q (defArgs st) (defBody st) (defScope st) dvs kws f fd) (S : FnScope N ps (defScope st)) {A : Around} {outer : List PySem.Env} {s : Shared} {H : Hp} {us : List Value} {vs : List V} {Qk : VK} (hr : Room (k + 1) A) (e0 : Env0 P w K mg base A outer s H)
    (bt : BindsTo s fd ⟨us, []⟩ (ps.zip us)) (rv : Vals vs us) (hl : vs.length = ps.length)
    (hb : ∀ (cdv : Value), Room k (A.deeper (envOfC q (defScope st) s.heap.objs.size f cdv)) → ∃ t, PSs (cxOf CX0 P w K mg base N q (defScope st) f cdv A outer s H fun _ _ _ => False) (defBody st) t ∧ t { nx := fun _ _ => False, rt := Qk } (L2.start N vs) H) :
    codeAny (model P w) A (.call (.ref f) ⟨us, []⟩) (CR CX0 outer P w H s Qk fun _ _ _ => False) s := by
  obtain ⟨oc, od, dV, kV, doc, pm, an, cdv, ct, osl, rfl, lk, hcd, _, _⟩ := F.ex
  have kin : K.In s.heap := e0.mod.kin.keeps fun c u z => (e0.bs c u z).left
  have bnd : ∀ y ∈ ps.zip us, (defScope st).names.lookup y.1 = some .local ∨ ((defScope st).names.lookup y.1 = some .cell ∧ ((cellsFrom (s.heap.objs.size + 1) (defScope st).names []).lookup y.1).isSome = true) := by
    rintro ⟨n, v⟩ hy
    cases S.par n (List.of_mem_zip hy).1 with
    | inl z => exact Or.inl z
    | inr z => exact Or.inr ⟨z, PySem.W.cellsFrom_some _ _ _ (Or.inl z)⟩
  obtain ⟨t, ht, hq⟩ := hb cdv (hr.deeper _)
  refine codeAny_call_function hr.depth (kin _ _ lk) rfl S.co S.gen rfl (PySem.W.codeRec_of kin hcd) (bt _ _ _ _ (wpAny_newFunctionEnv_cells S.kind bnd fun env he s1 z => ?_))
  cases he
  have I := inv_start (CX := CX0) (E := fun _ _ _ => False) S hr.hd e0 hl rv z
  refine ⟨(e0.mod.nolimit.keeps fun c u y => (e0.bs c u y).left).keeps z.toInCall.keep, codeAny_func (wpAny_mono (ht.run [] s1 _ H _ I hq) (fun fl s' hs => ?_) fun _ _ hs => hs)⟩
  match fl, hs with
  | .ret u, ⟨v, _, H', J, r, qq⟩ => exact ⟨v, H', J.os, J.bare, J.base, J.hok, r, qq⟩
  | .next, ⟨_, _, _, qq⟩ => exact qq.elim
  | .brk, ⟨_, _, _, qq⟩ => exact qq.elim
  | .cont, ⟨_, _, _, qq⟩ => exact qq.elim
def TiO (t it : Addr) : HO := .ext fun h => h.get? it = some { cls := .type "tuple_iterator", data := .fields #[.ref t, .int 0 0] }
def rItT (K : PySem.W.Frag) (n : Nat) : List V → Hp → VK → Prop := fun xs H Q => ∃ t zs, xs = [.ref t] ∧ SqT K H t zs ∧ ∀ it, H it = none → n ≤ it → Q (.ref it) (upd H it (TiO t it))
structure CalI (P : Program) (w : World) (K : PySem.W.Frag) (mg : Str → Option Value) (base : Heap) (k : Nat) (c g : Str) : Prop where
  ok : ∃ f, Meth K (He.ga K c) "__iter__" f ∧ Cls K (He.ga K c) ∧ ∀ (A : Around) (outer : List PySem.Env) (s : Shared) (H : Hp) (a dx t : Addr) (gs : List (Str × V)) (zs : List V), Room k A → Env0 P w K mg base A outer s H → K.In s.heap → H a = some (.ins (He.ga K c) dx gs) → gs.lookup g = some (.ref t) → SqT K H t zs →
    codeAny (model P w) A (.call (.ref f) ⟨[.ref a], []⟩) (CR CX0 outer P w H s (fun z H' => ∃ it, z = .ref it ∧ H it = none ∧ s.heap.objs.size ≤ it ∧ H' = upd H it (TiO t it)) fun _ _ _ => False) s
section
variable {P : Program} {w : World} {K : PySem.W.Frag} {mg : Str → Option Value} {base : Heap} {k : Nat} {c g q self : Str} {N : List Str} {st : Stmt} {p1 p2 p3 p4 p5 : Pos}
end
section
variable {X : Cx} {O : List Nat} {c g : Str} {j k : Nat} {tg e : Expr} {F : Env → Option D}
def iOwn (c g : Str) (F : Env → Option D) : Env → Option (List D) := fun ρ => match F ρ with | some d => (match fldD c g d with | some (.tup ds) => some ds | _ => none) | none => none
end
end FL
namespace FL
variable [HW]
open PySem PySem.Spec L2

/-! ### an expression that reads lists of our own and is worth something with no list in it -/
section
variable {K : PySem.W.Frag} {φ : Nat → Option Addr} {Hf0 H0 Hf H : Hp} {O : List Nat} {ρ : Env} {σ : L2.St}
def NewL (Hf Hf1 : Hp) : Prop := ∀ a o, Hf1 a = some o → Hf a = none → ∃ vs, o = .lst vs
theorem NewL.refl {Hf : Hp} : NewL Hf Hf := fun a o h1 h2 => by rw [h2] at h1; cases h1
theorem NewL.trans {Hf Hf1 Hf2 : Hp} (s : Same Hf1 Hf2) (a : NewL Hf Hf1) (b : NewL Hf1 Hf2) : NewL Hf Hf2 := fun x o h1 h2 => by
  cases e : Hf1 x with
  | none => exact b x o h1 e
  | some u =>
    have := s _ _ e
    rw [h1] at this
    cases this
    exact a x o e h2
end
/-! no list in it -/
mutual
def noL : D → Bool
  | .tup xs => noLs xs | .lst _ => false | .klst _ => false | .ins _ _ xs => noLs xs | .dct _ xs => noLs xs | .dkt _ ks xs => noLs ks && noLs xs | .xtp xs => noLs xs | .obj _ => false | _ => true
def noLs : List D → Bool
  | [] => true
  | d :: ds => noL d && noLs ds
end
section
variable {K : PySem.W.Frag} {φ : Nat → Option Addr} {H H' : Hp}
theorem SqT_keep (k : ∀ a o, H a = some o → (∀ vs, o ≠ .lst vs) → H' a = some o) {a : Addr} {xs : List V} (h : SqT K H a xs) : SqT K H' a xs := by
  rcases h with (h | ⟨o, h⟩) | h
  · exact .inl (.inl (k _ _ h fun _ z => by cases z))
  · exact .inl (.inr ⟨o, k _ _ h fun _ z => by cases z⟩)
  · exact .inr h
mutual
theorem Rp.keep (k : ∀ a o, H a = some o → (∀ vs, o ≠ .lst vs) → H' a = some o) : ∀ {d : D} {v : V}, noL d = true → Rp K φ H d v → Rp K φ H' d v
  | .non, _, _, .non => .non
  | .bl _, _, _, .bl b => .bl b
  | .int _, _, _, .int i => .int i
  | .str _, _, _, .str y => .str y
  | .tup _, _, h, .tup s r => .tup (SqT_keep k s) (RpAll.keep k (by simpa [noL] using h) r)
  | .lst _, _, h, _ => by simp [noL] at h
  | .klst _, _, h, _ => by simp [noL] at h
  | .obj _, _, h, _ => by simp [noL] at h
  | .ins _ _ _, _, h, .ins s l r => .ins (k _ _ s fun _ z => by cases z) l (RpAll.keep k (by simpa [noL] using h) r)
  | .dct _ _, _, h, .dct s l r => .dct (s.imp (fun s => k _ _ s fun _ z => by cases z) fun ⟨o, s⟩ => ⟨o, k _ _ s fun _ z => by cases z⟩) l (RpAll.keep k (by simpa [noL] using h) r)
  | .xtp _, _, h, .xtp s p r => .xtp (k _ _ s fun _ z => by cases z) p (RpAll.keep k (by simpa [noL] using h) r)
  | .dkt fz _ _, _, h, .dkt s a b c d f g r t => .dkt (s.map fun v e z => k _ _ e fun _ w => by rcases z with rfl | ⟨o, rfl⟩ <;> (first | cases w | (unfold dkO at w; cases w))) a b c d f g (RpAll.keep k (Bool.and_eq_true_iff.mp (show (noLs _ && noLs _) = true from h)).1 r) (RpAll.keep k (Bool.and_eq_true_iff.mp (show (noLs _ && noLs _) = true from h)).2 t)
theorem RpAll.keep (k : ∀ a o, H a = some o → (∀ vs, o ≠ .lst vs) → H' a = some o) : ∀ {ds : List D} {vs : List V}, noLs ds = true → RpAll K φ H ds vs → RpAll K φ H' ds vs
  | [], _, _, .nil => .nil
  | _ :: _, _, h, .cons r t => by
    have h' := Bool.and_eq_true_iff.mp (show (noL _ && noLs _) = true from h)
    exact .cons (Rp.keep k h'.1 r) (RpAll.keep k h'.2 t)
end
end
def eNoL (F : Env → Option D) : Env → Option D := fun ρ => match F ρ with | some d => if noL d = true then some d else none | none => none
def eNoLl (F : Env → Option D) : Env → Option D := fun ρ => match F ρ with | some (.lst xs) => if noLs xs = true then some (.lst xs) else none | _ => none
theorem Gr.back {Hf Hf1 H Hf2 H2 : Hp} (s1 : Same Hf Hf1) (n1 : NewL Hf Hf1) (g2 : Gr Hf1 H Hf2 H2) : ∃ Hg, Gr Hf H Hg H2 ∧ (∀ a o, Hf2 a = some o → (∀ vs, o ≠ .lst vs) → Hg a = some o) ∧ (∀ a, Hf2 a = none → Hg a = none) := by
  have own : ∀ a, (∃ o, H a = some o) ∧ Hf a = none → ∀ o, Hf2 a = some o → ∃ vs, o = .lst vs := fun a ⟨⟨u, hu⟩, hn⟩ o ho => by
    cases e : Hf1 a with
    | none => rw [g2.n a u hu e] at ho; cases ho
    | some w =>
      have := g2.f _ _ e
      rw [ho] at this
      cases this
      exact n1 a o e hn
  let Hg : Hp := fun a => match H a, Hf a with | some _, none => none | _, _ => Hf2 a
  have eg : ∀ a, (∃ o, H a = some o) ∧ Hf a = none → Hg a = none := fun a ⟨⟨u, hu⟩, hn⟩ => by show (match H a, Hf a with | some _, none => none | _, _ => Hf2 a) = none; rw [hu, hn]
  have en : ∀ a, ¬((∃ o, H a = some o) ∧ Hf a = none) → Hg a = Hf2 a := fun a hc => by
    show (match H a, Hf a with | some _, none => none | _, _ => Hf2 a) = Hf2 a
    split
    · rename_i o _ h1 h2
      exact absurd ⟨⟨_, h1⟩, h2⟩ hc
    · rfl
  have sub : ∀ a o, Hg a = some o → Hf2 a = some o := fun a o z => by
    by_cases hc : (∃ o, H a = some o) ∧ Hf a = none
    · rw [eg a hc] at z; cases z
    · rwa [en a hc] at z
  refine ⟨Hg, ⟨fun a o z => ?_, g2.h, fun a o z => g2.s _ _ (sub a o z), fun a o h1 h2 => eg a ⟨⟨o, h1⟩, h2⟩⟩, fun a o z hn => ?_, fun a z => ?_⟩
  · rw [en a (fun hc => by rw [z] at hc; cases hc.2)]
    exact g2.f _ _ (s1 _ _ z)
  · by_cases hc : (∃ o, H a = some o) ∧ Hf a = none
    · obtain ⟨vs, e⟩ := own a hc o z
      exact absurd e (hn vs)
    · rw [en a hc]; exact z
  · by_cases hc : (∃ o, H a = some o) ∧ Hf a = none
    · exact eg a hc
    · rw [en a hc]; exact z
section
variable {X : Cx} {L O : List Nat} {e : Expr} {F : Env → Option D}
end
/-! xs.clear() -/
def clearF : List D → List D → Option (List D) := fun _ ds => match ds with | [] => some [] | _ => none
end FL
namespace FL
variable [HW]
open PySem PySem.Spec L2

/-! ### x in t, t a tuple of data of any depth -/
def rInT (K : PySem.W.Frag) (neg : Bool) : R2 := fun x y H Q => ∃ d ds, Dp K H x d ∧ Dp K H y (.tuple ds) ∧ SeqAt.shaped d = true ∧ SeqAt.shaped (.tuple ds) = true ∧ Q (.bl (neg != ds.any fun z => PyData.eqv z d)) H
def inTD (neg : Bool) (x y : D) : Option D := match y with
  | .tup xs => if (okD x && okD (.tup xs)) = true then some (.bl (neg != xs.any fun z => deq z x)) else none
  | _ => none
end FL
namespace FL
variable [HW]
open PySem PySem.Spec L2

/-! ### bits -/
def orD : D → D → Option D | .int i, .int j => some (.int (Builtin.bitOr i j)) | _, _ => none
def andD : D → D → Option D | .int i, .int j => some (.int (Builtin.bitAnd i j)) | _, _ => none
def shlD : D → D → Option D | .int i, .int j => if 0 ≤ j ∧ j ≤ 1000000 ∧ i.natAbs < 2 ^ 64 then some (.int (i * 2 ^ j.toNat)) else none | _, _ => none
def shrD : D → D → Option D | .int i, .int j => if 0 ≤ j then some (.int (i / 2 ^ j.toNat)) else none | _, _ => none
def invD : D → Option D | .int i => some (.int (Builtin.bitNot i)) | _ => none
section
variable {X : Cx} {O : List Nat} {a b e e' : Expr} {p pos : Pos} {F G : Env → Option D} {c : Str} {j k : Nat} {mir : List D → Option D}
/-! for x, y in zip(xs, ys) -/
def zipT (xs ys : List D) : List D := (xs.zip ys).map fun q => .tup [q.1, q.2]
def iZp (F G : Env → Option D) : Env → Option (List D) := fun ρ => match F ρ, G ρ with
  | some x, some y => if (isLst x && isLst y) = true then (match seqD x, seqD y with | some xs, some ys => some (zipT xs ys) | _, _ => none) else none
  | _, _ => none
/-! x <= y of a class of our own -/
end
end FL
namespace FL
variable [HW]
open PySem PySem.Spec L2

/-! ### calls that leave the last arguments to the defaults -/
structure CalKd (P : Program) (w : World) (K : PySem.W.Frag) (mg : Str → Option Value) (base : Heap) (k : Nat) (x : Str) (fr : Bool) (n : Nat) (m : List D → Option D) (df : List D) : Prop where
  ok : ∃ (f : Addr) (fd : FuncData) (ps : List Str) (ds : List Value) (dvs : List V), FnOk P w K mg base CX0 k f fd ps (spF K fr n m) ∧ mg x = some (.ref f) ∧ PySem.W.keepIn K (.ref f) = true ∧ Binds K fd ps ds ∧ Vals dvs ds ∧ ∀ φ H, RpAll K φ H df dvs
section
variable {P : Program} {w : World} {K : PySem.W.Frag} {mg : Str → Option Value} {base : Heap} {k : Nat} {a : Addr} {ps N : List Str} {x : Str} {st : Stmt} {G : Env → Option Out} {dvs : List V} {kws : List (Str × V)} {df : List D}
end
section
variable {X : Cx} {O : List Nat} {e : Expr} {es : List Expr} {p pos : Pos} {Fs : Env → Option (List D)} {x : Str} {j k n : Nat} {m : List D → Option D} {df : List D}
def mLd (n : Nat) (m : List D → Option D) (df : List D) : List D → Option D := fun ds => mL n m (ds ++ df)
end
end FL
namespace FL
variable [HW]
open PySem PySem.Spec PyProof.Rows L2

/-! ### x.bit_length() -/
def blenD : D → Option D | .int i => some (.int (Builtin.Int.intBits i : Nat)) | _ => none
section
variable {X : Cx} {O : List Nat} {o e : Expr} {es : List Expr} {kws : List Keyword} {p pos apos : Pos} {F : Env → Option D} {Fs Gs : Env → Option (List D)} {x : Str} {j k n : Nat} {m : List D → Option D}
/-! ### calls with keywords -/
structure CalKk (P : Program) (w : World) (K : PySem.W.Frag) (mg : Str → Option Value) (base : Heap) (k : Nat) (x : Str) (fr : Bool) (n : Nat) (m : List D → Option D) (n0 : Nat) (ks : List Str) : Prop where
  ok : ∃ (f : Addr) (fd : FuncData) (ps : List Str) (g : List Value → List Value → List Value), FnOk P w K mg base CX0 k f fd ps (spF K fr n m) ∧ mg x = some (.ref f) ∧ PySem.W.keepIn K (.ref f) = true ∧ KBn K fd ps n0 ks g (fun vs zs => vs ++ zs)
end
section
variable {P : Program} {w : World} {K : PySem.W.Frag} {mg : Str → Option Value} {base : Heap} {k : Nat} {a : Addr} {ps N : List Str} {x : Str} {st : Stmt} {G : Env → Option Out} {kws : List (Str × V)}
end
section
variable {X : Cx} {O : List Nat} {o e : Expr} {es : List Expr} {kws : List Keyword} {p pos apos : Pos} {F : Env → Option D} {Fs Gs : Env → Option (List D)} {x : Str} {j k n n0 nk : Nat} {m : List D → Option D} {ks : List Str} {df : List D}
end

/-! ### for x, y, z in zip(xs, ys, zs) -/
def Itz3 (K : PySem.W.Frag) (a b c : Addr) (n1 n2 n3 : Nat) : It :=
  ⟨fun i H => ∃ (xs ys zs : List V) (x y z : V), SqL K H a xs ∧ SqL K H b ys ∧ SqL K H c zs ∧ xs[i]? = some x ∧ ys[i]? = some y ∧ zs[i]? = some z ∧ xs.length = n1 ∧ ys.length = n2 ∧ zs.length = n3,
    fun i H v H' => ∃ T x y z, v = .ref T ∧ H T = none ∧ H' = upd H T (.tup [x, y, z]) ∧ (∀ xs, SqL K H a xs → xs[i]? = some x) ∧ (∀ ys, SqL K H b ys → ys[i]? = some y) ∧ ∀ zs, SqL K H c zs → zs[i]? = some z,
    fun i H => ∃ xs ys zs : List V, SqL K H a xs ∧ SqL K H b ys ∧ SqL K H c zs ∧ xs.length = n1 ∧ ys.length = n2 ∧ zs.length = n3 ∧ (n1 ≤ i ∨ n2 ≤ i ∨ n3 ≤ i)⟩
def iZip3 (K : PySem.W.Frag) (ta : TA) : TI := fun σ H R => ta σ H fun vs H1 => ∃ a b c xs ys zs, vs = [.ref a, .ref b, .ref c] ∧ SqL K H1 a xs ∧ SqL K H1 b ys ∧ SqL K H1 c zs ∧ R (Itz3 K a b c xs.length ys.length zs.length) H1
def zipT3 (xs ys zs : List D) : List D := (xs.zip (ys.zip zs)).map fun q => .tup [q.1, q.2.1, q.2.2]
def iZp3 (F G E : Env → Option D) : Env → Option (List D) := fun ρ => match F ρ, G ρ, E ρ with
  | some x, some y, some z => if (isLst x && (isLst y && isLst z)) = true then (match seqD x, seqD y, seqD z with | some xs, some ys, some zs => some (zipT3 xs ys zs) | _, _, _ => none) else none
  | _, _, _ => none
end FL
namespace FL
variable [HW]
open PySem

/-! ### loops that add to a list -/
section
variable {A B G : Env → Option Out} {g : D → Env → Option Env} {Fi : Env → Option (List D)} {ρ : Env} {o : Option Out}
end
/-! ### loops that look for something -/
section
variable {A B G : Env → Option Out} {g : D → Env → Option Env} {Fi : Env → Option (List D)} {ρ : Env} {o : Option Out}
end
/-! ### the very same data -/
mutual
def sd : D → D → Bool
  | .non, .non => true
  | .bl b, .bl c => b == c
  | .int i, .int j => decide (i = j)
  | .str x, .str y => decide (x = y)
  | .tup xs, .tup ys => sds xs ys
  | .lst xs, .lst ys => sds xs ys
  | .klst xs, .klst ys => sds xs ys
  | _, _ => false
def sds : List D → List D → Bool
  | [], [] => true
  | x :: xs, y :: ys => sd x y && sds xs ys
  | _, _ => false
end
mutual
theorem sd_ok : ∀ {x y : D}, sd x y = true → x = y
  | .non, y, h => by cases y <;> simp [sd] at h; rfl
  | .bl b, y, h => by cases y <;> simp [sd] at h; rw [h]
  | .int i, y, h => by cases y <;> simp [sd] at h; rw [h]
  | .str z, y, h => by cases y <;> simp [sd] at h; rw [h]
  | .tup xs, y, h => by cases y <;> simp only [sd] at h <;> first | rw [sds_ok h] | cases h
  | .lst xs, y, h => by cases y <;> simp only [sd] at h <;> first | rw [sds_ok h] | cases h
  | .klst xs, y, h => by cases y <;> simp only [sd] at h <;> first | rw [sds_ok h] | cases h
  | .obj i, y, h => by cases y <;> simp [sd] at h
  | .ins _ _ _, y, h => by cases y <;> simp [sd] at h
  | .dct _ _, y, h => by cases y <;> simp [sd] at h
  | .dkt _ _ _, y, h => by cases y <;> simp [sd] at h
  | .xtp _, y, h => by cases y <;> simp [sd] at h
theorem sds_ok : ∀ {xs ys : List D}, sds xs ys = true → xs = ys
  | [], [], _ => rfl
  | x :: xs, y :: ys, h => by
    simp only [sds, Bool.and_eq_true] at h
    rw [sd_ok h.1, sds_ok h.2]
  | [], _ :: _, h => by simp [sds] at h
  | _ :: _, [], h => by simp [sds] at h
end
end FL
namespace FL
variable [HW]
open PySem

/-! ### masks -/
def maskN : List Bool → Nat → Nat
  | [], _ => 0
  | b :: bs, i => (if b then 2 ^ i else 0) ||| maskN bs (i + 1)
def maskF (n : Nat) (p : Nat → Bool) : Nat := maskN ((List.range n).map p) 0
def idxB (n : Nat) (p : Nat → Bool) : List D := ((List.range n).filter p).map fun k : Nat => D.int (k : Int)
def bitsG : Env → Option Out :=
    (sSeq (sRet (eComp [1] (iRng1 (aCons (e1 blenD (eVar 0)) aNil)) (gSet 1) (tB truD (e2 andD (e2 shrD (eVar 0) (eVar 1)) (eC (.int 1)))) (eVar 1)))
    sNil)
end FL
namespace FL
variable [HW]
open PySem L2

/-! ### displays of constants, at once -/
def c0 : Expr → Option D
  | .Constant (.int i) _ _ => some (.int i)
  | .Constant (.bool b) _ _ => some (.bl b)
  | .Constant .none _ _ => some .non
  | .Constant (.str x) _ _ => some (.str x)
  | _ => none
def cAll (f : Expr → Option D) : List Expr → Option (List D)
  | [] => some []
  | e :: es => match f e, cAll f es with | some d, some ds => some (d :: ds) | _, _ => none
def cTup (f : Expr → Option D) : Expr → Option D
  | .Tuple es _ _ => (match cAll f es with | some ds => if ds.length ≤ 1000 then some (.tup ds) else none | none => none)
  | e => f e
def c1 : Expr → Option D := cTup c0
def c2 : Expr → Option D := cTup c1
def Cst (f : Expr → Option D) : Prop := ∀ (X : Cx) (O : List Nat) (e : Expr) (d : D), f e = some d → FE X O e (eC d) ∧ ∀ es : List Expr, starEach (e :: es) X.env = (false, eval e X.env) :: starEach es X.env
theorem cst0 : Cst c0 := fun X O e d h => by
  unfold c0 at h
  split at h <;> first | (cases h; done) | (cases h; exact ⟨fe_int, fun _ => rfl⟩) | (cases h; exact ⟨fe_bl, fun _ => rfl⟩) | (cases h; exact ⟨fe_non, fun _ => rfl⟩) | (cases h; exact ⟨fe_str, fun _ => rfl⟩)
def aK (ds : List D) : Env → Option (List D) := fun _ => some ds
theorem fa_all {f : Expr → Option D} (hf : Cst f) {X : Cx} {O : List Nat} : ∀ {es : List Expr} {ds : List D}, cAll f es = some ds → FA X O es (aK ds)
  | [], ds, h => by cases h; exact fa_nil
  | e :: es, ds, h => by
    unfold cAll at h
    split at h
    · rename_i d ds' h1 h2
      cases h
      obtain ⟨q1, q2⟩ := hf X O e d h1
      exact fa_cons q1 (fa_all hf h2) (q2 es)
    · cases h
theorem cst_tup {f : Expr → Option D} (hf : Cst f) : Cst (cTup f) := fun X O e d h => by
  unfold cTup at h
  split at h
  · rename_i es x pos
    split at h
    · rename_i ds hds
      split at h
      · rename_i hl
        cases h
        refine ⟨?_, fun _ => rfl⟩
        have q : FE X O (.Tuple es x pos) (eL tupD (aK ds)) := fe_tup (fa_all hf hds)
        have e1 : (eL tupD (aK ds)) = eC (.tup ds) := by
          funext ρ
          show tupD ds = some (.tup ds)
          unfold tupD
          rw [if_pos (by rw [PySem.sizeLine_eq]; omega)]
        rw [e1] at q
        exact q
      · cases h
    · cases h
  · exact hf X O _ d h
theorem cst1 : Cst c1 := cst_tup cst0
theorem cst2 : Cst c2 := cst_tup cst1
section
variable {X : Cx} {O : List Nat} {e : Expr} {es : List Expr} {d : D} {ds : List D}
theorem fe_cst (h : c2 e = some d) : FE X O e (eC d) := (cst2 X O e d h).1
theorem fa_cst (h : cAll c2 es = some ds) : FA X O es (aK ds) := fa_all cst2 h
end
end FL
namespace FL
variable [HW]
open PySem PySem.Spec PyProof.Rows L2

/-! ### xs.count(x) of flat data -/
def rCntV (K : PySem.W.Frag) : V → List V → Hp → VK → Prop := fun x xs H Q => ∃ (a : Addr) (ys : List V) (y : V), x = V.ref a ∧ xs = [y] ∧ SqL K H a ys ∧ flatV y = true ∧ ys.all flatV = true ∧ Q (.int (ys.countP fun z => eqV z y : Nat)) H
def countD (x : D) (ds : List D) : Option D := match ds with
  | [y] => if isLst x && flatD y then (match seqD x with | some xs => if xs.all flatD then some (.int (xs.countP fun z => deq z y : Nat)) else none | none => none) else none
  | _ => none
section
variable {X : Cx} {O : List Nat} {o e : Expr} {es : List Expr} {F G : Env → Option D} {Fs : Env → Option (List D)}
end

/-! ### a, *b = xs -/
def tGStar (K : PySem.W.Frag) (t : TGs) : TG := fun v σ H Q => ∃ (l : Addr) (x : V) (ys : List V), v = .ref l ∧ SqL K H l (x :: ys) ∧ (x :: ys).length ≤ 16384 ∧ ∀ D, H D = none → t [x, .ref D] σ (upd H D (.lst ys)) Q
def sStar (i j : Nat) (F : Env → Option D) : Env → Option Out := fun ρ => match F ρ with
  | some d => if isLst d then (match seqD d with | some (x :: ys) => if ys.length < 16384 then some (.nx ((ρ.set i (some x)).set j (some (.lst ys)))) else none | _ => none) else none
  | none => none
section
variable {X : Cx} {O L : List Nat} {fr : Bool} {e : Expr} {F : Env → Option D} {k : Nat} {p1 p2 p3 p4 pos : Pos} {x y : Str}
end

/-! ### dicts of the module with text keys -/
structure TabAt (K : PySem.W.Frag) (w : World) (mg : Str → Option Value) (x : Str) (tb : List (Str × D)) : Prop where
  ok : ∃ (a : Addr) (es : Array DictEntry) (n : Nat), mg x = some (.ref a) ∧ KDict K w a es n ∧ ∀ q ∈ tb, ∃ u v, PySem.W.nsIn K a q.1 = some (some u) ∧ RelV v u ∧ RpK K q.2 v
def tabB (K : PySem.W.Frag) (x : Str) (tb : List (Str × D)) : Bool := match PySem.W.nsIn K mainGlobals x with
  | some (some (.ref a)) => decide (a = He.ga K x) && tb.all fun q => (match PySem.W.nsIn K a q.1 with | some (some u) => cB K q.2 u | _ => false)
  | _ => false
def tbGet (tb : List (Str × D)) (z : Str) : Option D := match tb.find? fun q => decide (q.1 = z) with | some q => some q.2 | none => none
def tbItem (tb : List (Str × D)) : D → Option D | .str z => tbGet tb z | _ => none
def tbHas (tb : List (Str × D)) (neg : Bool) : D → Option D | .str z => (match tbGet tb z with | some _ => some (.bl (!neg)) | none => none) | _ => none
section
variable {X : Cx} {O : List Nat} {e : Expr} {F : Env → Option D} {x : Str} {p pos : Pos} {tb : List (Str × D)}
end

/-! ### the head's facts, one more Bool, and tables -/
abbrev AlG : Type := (He.AlD × Bool) × List (Option (List (Option (Str × Int))))
def obsG (n : Nat) (fa : List He.Fa) (fn : List He.DefD) (ex : PySem.W.Frag → Bool) (ts : List He.Tab) (g : Addr → Option Obj) : AlG := ((He.obsD fa fn (He.frG g (He.asD g n)), ex (He.frG g (He.asD g n))), ts.map fun t => He.dicW (He.frG g (He.asD g n)) (t.1 (He.frG g (He.asD g n))))
def SaysG (fa : List He.Fa) (fn : List He.DefD) (ex : PySem.W.Frag → Bool) (ts : List He.Tab) (w : World) (K : PySem.W.Frag) : Prop := (He.SaysD fa fn K ∧ ex K = true) ∧ (ts.map fun t => He.dicW K (t.1 K)) = ts.map fun t => some (He.keysIn w.params t.2)
def hookG (n : Nat) (fa : List He.Fa) (fn : List He.DefD) (ex : PySem.W.Frag → Bool) (ts : List He.Tab) : PySem.W.Hook where
  α := AlG
  obs := fun s => obsG n fa fn ex ts s.heap.get?
  val := fun w => ((He.valD fn, true), ts.map fun t => some (He.keysIn w.params t.2))
  says := fun w h => ∃ K : PySem.W.Frag, K.In h ∧ SaysG fa fn ex ts w K
  of := fun w _ e => ⟨_, He.frG_in, ⟨congrArg (fun z : AlG => z.1.1) e, congrArg (fun z : AlG => z.1.2) e⟩, (congrArg (fun z : AlG => z.2) e : _ = ts.map fun t => some (He.keysIn w.params t.2))⟩
  keeps := fun _ _ _ ⟨K, hK, c⟩ k => ⟨K, PySem.W.Frag.In.keeps hK k, c⟩
end FL
namespace FL
variable [HW]
open PySem PySem.Spec L2

/-! ### objects that change -/
inductive Kd where
  | ins | lst | dic | dkt
  deriving DecidableEq
structure Ob where
  k : Kd
  c : Str
  fs : List Str
  xs : List D
def Ext (φ φ' : Nat → Option Addr) : Prop := ∀ i a, φ i = some a → φ' i = some a
theorem Ext.refl (φ : Nat → Option Addr) : Ext φ φ := fun _ _ h => h
theorem Ext.trans {φ φ1 φ2 : Nat → Option Addr} (a : Ext φ φ1) (b : Ext φ1 φ2) : Ext φ φ2 := fun i x h => b i x (a i x h)
section
variable {K : PySem.W.Frag} {φ φ' : Nat → Option Addr} {H : Hp}
mutual
theorem Rp.ext (e : Ext φ φ') : ∀ {d : D} {v : V}, Rp K φ H d v → Rp K φ' H d v
  | _, _, .non => .non
  | _, _, .bl b => .bl b
  | _, _, .int i => .int i
  | _, _, .str x => .str x
  | _, _, .tup s r => .tup s (RpAll.ext e r)
  | _, _, .lst s r => .lst s (RpAll.ext e r)
  | _, _, .klst s r => .klst s (RpAll.ext e r)
  | _, _, .obj h => .obj (e _ _ h)
  | _, _, .ins s l r => .ins s l (RpAll.ext e r)
  | _, _, .dct s l r => .dct s l (RpAll.ext e r)
  | _, _, .dkt s a b c d f g r t => .dkt s a b c d f g (RpAll.ext e r) (RpAll.ext e t)
  | _, _, .xtp s p r => .xtp s p (RpAll.ext e r)
theorem RpAll.ext (e : Ext φ φ') : ∀ {ds : List D} {vs : List V}, RpAll K φ H ds vs → RpAll K φ' H ds vs
  | _, _, .nil => .nil
  | _, _, .cons r t => .cons (r.ext e) (RpAll.ext e t)
end
end
/-! no object as data in it -/
mutual
def noIns : D → Bool
  | .tup xs => noInss xs | .lst _ => false | .klst _ => false | .ins _ _ _ => false | .dct _ _ => false | .dkt fz ks xs => fz && (noInss ks && noInss xs) | .xtp xs => noInss xs | _ => true
def noInss : List D → Bool
  | [] => true
  | d :: ds => noIns d && noInss ds
end
section
variable {K : PySem.W.Frag} {φ : Nat → Option Addr} {H H' : Hp}
theorem SqT_cut (k : ∀ a o, H a = some o → ((∃ xs, o = .tup xs) ∨ ∃ q u, o = .frz q u) → H' a = some o) {a : Addr} {xs : List V} (h : SqT K H a xs) : SqT K H' a xs := by
  rcases h with (h | ⟨o, h⟩) | h
  · exact .inl (.inl (k _ _ h (.inl ⟨_, rfl⟩)))
  · exact .inl (.inr ⟨o, k _ _ h (.inr ⟨_, _, rfl⟩)⟩)
  · exact .inr h
mutual
theorem Rp.cut (k : ∀ a o, H a = some o → ((∃ xs, o = .tup xs) ∨ ∃ q u, o = .frz q u) → H' a = some o) : ∀ {d : D} {v : V}, noIns d = true → Rp K φ H d v → Rp K φ H' d v
  | _, _, _, .non => .non
  | _, _, _, .bl b => .bl b
  | _, _, _, .int i => .int i
  | _, _, _, .str x => .str x
  | .tup _, _, h, .tup s r => .tup (SqT_cut k s) (RpAll.cut k (by simpa [noIns] using h) r)
  | .lst _, _, h, .lst _ _ => by simp [noIns] at h
  | .klst _, _, h, .klst _ _ => by simp [noIns] at h
  | _, _, _, .obj h => .obj h
  | .ins _ _ _, _, h, .ins _ _ _ => by simp [noIns] at h
  | .dct _ _, _, h, .dct _ _ _ => by simp [noIns] at h
  | .xtp _, _, h, .xtp s p r => .xtp (k _ _ s (.inr ⟨_, _, rfl⟩)) p (RpAll.cut k (by simpa [noIns] using h) r)
  | .dkt fz _ _, _, h, .dkt s a b c d f g r t => by
    obtain ⟨h1, h2⟩ := Bool.and_eq_true_iff.mp (show (fz && (noInss _ && noInss _)) = true from h)
    obtain ⟨h3, h4⟩ := Bool.and_eq_true_iff.mp h2
    subst h1
    obtain ⟨o, s⟩ := s
    exact .dkt ⟨o, k _ _ s (.inr ⟨_, _, rfl⟩)⟩ a b c d f g (RpAll.cut k h3 r) (RpAll.cut k h4 t)
theorem RpAll.cut (k : ∀ a o, H a = some o → ((∃ xs, o = .tup xs) ∨ ∃ q u, o = .frz q u) → H' a = some o) : ∀ {ds : List D} {vs : List V}, noInss ds = true → RpAll K φ H ds vs → RpAll K φ H' ds vs
  | [], _, _, .nil => .nil
  | _ :: _, _, h, .cons r t => by
    have h' := Bool.and_eq_true_iff.mp (show (noIns _ && noInss _) = true from h)
    exact .cons (Rp.cut k h'.1 r) (RpAll.cut k h'.2 t)
end
end
def ObAt (φ : Nat → Option Addr) (S : List Ob) (a : Addr) : Prop := ∃ i, i < S.length ∧ φ i = some a
def OAt (K : PySem.W.Frag) (φ : Nat → Option Addr) (Hf : Hp) (o : Ob) (x : Option HO) : Prop := ∃ vs, RpAll K φ Hf o.xs vs ∧ match o.k with
  | .ins => o.fs.length = vs.length ∧ ∃ dx, x = some (.ins (He.ga K o.c) dx (o.fs.zip vs))
  | .lst => x = some (.lst vs)
  | .dic => o.fs.length = vs.length ∧ x = some (.dK ((o.fs.map Sum.inr).zip vs))
  | .dkt => ∃ (a : Addr) (ks ds : List D) (ns : List NestedKey) (as : List Addr) (ws : List V) (us : List Value), x = some (dkO a (kents ns as us)) ∧ o.xs = ks ++ ds ∧ vs = as.map V.ref ++ ws ∧ ks.length = ds.length ∧ ks.length = as.length ∧ nqAll ks = some ns ∧ ns.Nodup ∧ NestedKey.depthAll ns ≤ 8 ∧ ks.length ≤ 1000000 ∧ Vals ws us
theorem OAt.mk_ins {K : PySem.W.Frag} {φ : Nat → Option Addr} {Hf : Hp} {c : Str} {fs : List Str} {xs : List D} {vs : List V} {dx : Addr} {x : Option HO} (h : x = some (.ins (He.ga K c) dx (fs.zip vs))) (l : fs.length = vs.length) (r : RpAll K φ Hf xs vs) : OAt K φ Hf ⟨.ins, c, fs, xs⟩ x := ⟨vs, r, l, dx, h⟩
theorem OAt.ins {K : PySem.W.Frag} {φ : Nat → Option Addr} {Hf : Hp} {o : Ob} {x : Option HO} (h : OAt K φ Hf o x) (hk : o.k = .ins) : ∃ dx vs, x = some (.ins (He.ga K o.c) dx (o.fs.zip vs)) ∧ o.fs.length = vs.length ∧ RpAll K φ Hf o.xs vs := by
  obtain ⟨vs, r, q⟩ := h
  rw [hk] at q
  obtain ⟨l, dx, e⟩ := q
  exact ⟨dx, vs, e, l, r⟩
theorem OAt.some {K : PySem.W.Frag} {φ : Nat → Option Addr} {Hf : Hp} {o : Ob} {x : Option HO} (h : OAt K φ Hf o x) : ∃ u, x = Option.some u ∧ (∀ xs, u ≠ .tup xs) ∧ ∀ q w, u ≠ .frz q w := by
  obtain ⟨vs, _, q⟩ := h
  split at q
  · obtain ⟨_, dx, e⟩ := q; exact ⟨_, e, fun _ z => (nomatch z), fun _ _ z => (nomatch z)⟩
  · exact ⟨_, q, fun _ z => (nomatch z), fun _ _ z => (nomatch z)⟩
  · exact ⟨_, q.2, fun _ z => (nomatch z), fun _ _ z => (nomatch z)⟩
  · obtain ⟨a, ks, ds, ns, as, ws, us, e, _⟩ := q; exact ⟨_, e, fun _ z => (nomatch z), fun _ _ z => (nomatch z)⟩
theorem OAt.mono {K : PySem.W.Frag} {φ φ' : Nat → Option Addr} {Hf Hf' : Hp} {o : Ob} {x : Option HO} (h : OAt K φ Hf o x) (e : Ext φ φ') (s : Same Hf Hf') : OAt K φ' Hf' o x := let ⟨vs, r, q⟩ := h; ⟨vs, (RpAll.ext e r).mono s, q⟩
structure Cells (K : PySem.W.Frag) (φ : Nat → Option Addr) (Hf H : Hp) (S : List Ob) : Prop where
  at_ : ∀ i o, S[i]? = some o → ∃ a, φ i = some a ∧ Hf a = none ∧ OAt K φ Hf o (H a)
  inj : ∀ i j a, φ i = some a → φ j = some a → i = j
  out : ∀ i, S.length ≤ i → φ i = none
theorem Cells.get {K : PySem.W.Frag} {φ : Nat → Option Addr} {Hf H : Hp} {S : List Ob} (c : Cells K φ Hf H S) {a : Addr} (h : ObAt φ S a) : ∃ u, H a = some u ∧ Hf a = none ∧ (∀ xs, u ≠ .tup xs) ∧ ∀ q w, u ≠ .frz q w := by
  obtain ⟨i, hi, e⟩ := h
  obtain ⟨a', e', q1, q2⟩ := c.at_ i S[i] (List.getElem?_eq_getElem hi)
  rw [e] at e'
  cases e'
  obtain ⟨u, z1, z2⟩ := q2.some
  exact ⟨u, z1, q1, z2⟩
open Classical in
noncomputable def bas (φ : Nat → Option Addr) (S : List Ob) (B Hf H : Hp) : Hp := fun a => if ObAt φ S a then H a else match B a with | some o => some o | none => Hf a
open Classical in
noncomputable def fzc (φ : Nat → Option Addr) (S : List Ob) (Hf H : Hp) : Hp := fun a => if ObAt φ S a then H a else Hf a
open Classical in
noncomputable def ofc (φ : Nat → Option Addr) (S : List Ob) (Hf : Hp) : Hp := fun a => if ObAt φ S a then none else Hf a
section
variable {φ : Nat → Option Addr} {S : List Ob} {B Hf H : Hp} {a : Addr}
theorem bas_at (h : ObAt φ S a) : bas φ S B Hf H a = H a := by unfold bas; rw [if_pos h]
theorem bas_no (h : ¬ ObAt φ S a) : bas φ S B Hf H a = (match B a with | some o => some o | none => Hf a) := by unfold bas; rw [if_neg h]
theorem fzc_at (h : ObAt φ S a) : fzc φ S Hf H a = H a := by unfold fzc; rw [if_pos h]
theorem fzc_no (h : ¬ ObAt φ S a) : fzc φ S Hf H a = Hf a := by unfold fzc; rw [if_neg h]
theorem ofc_at (h : ObAt φ S a) : ofc φ S Hf a = none := by unfold ofc; rw [if_pos h]
theorem ofc_no (h : ¬ ObAt φ S a) : ofc φ S Hf a = Hf a := by unfold ofc; rw [if_neg h]
end
structure MSR (K : PySem.W.Frag) (φ : Nat → Option Addr) (B Bf : Hp) (O : List Nat) (ρ : Env) (S : List Ob) (σ : L2.St) (Hf H : Hp) : Prop where
  sr : SR K φ Hf (bas φ S B Hf H) O ρ σ Hf H
  cl : Cells K φ Hf H S
  fb : Same B H
  fn : ∀ a o, B a = some o → Bf a = none → Hf a = none
  nb : ∀ a, ObAt φ S a → B a = none
section
variable {K : PySem.W.Frag} {φ : Nat → Option Addr} {B Bf : Hp} {O O' : List Nat} {ρ ρ' : Env} {S : List Ob} {σ σ' : L2.St} {Hf H Hf' H' : Hp}
theorem MSR.sub (M : MSR K φ B Bf O ρ S σ Hf H) : Same Hf H := M.sr.sub
theorem MSR.step (M : MSR K φ B Bf O ρ S σ Hf H) (T : SR K φ Hf (bas φ S B Hf H) O' ρ' σ' Hf' H') : MSR K φ B Bf O' ρ' S σ' Hf' H' := by
  have keep : ∀ a, ObAt φ S a → H' a = H a ∧ Hf' a = none := fun a h => by
    obtain ⟨u, e1, e2, _⟩ := M.cl.get h
    have e3 : bas φ S B Hf H a = some _ := (bas_at h).trans e1
    exact ⟨(T.gh _ _ e3).trans e1.symm, T.gn a _ e3 e2⟩
  refine ⟨⟨T.len, T.sub, Same.refl _, fun a o e => ?_, fun _ _ _ z => z, T.val, fun i d e m => ?_, T.ne⟩, ⟨fun i o e => ?_, M.cl.inj, M.cl.out⟩, fun a o e => ?_, fun a o e1 e2 => ?_, M.nb⟩
  · by_cases h : ObAt φ S a
    · rw [bas_at h] at e; exact e
    · rw [bas_no h] at e
      split at e
      · rename_i o' hb
        cases e
        refine T.gh _ _ ?_
        rw [bas_no h, hb]
      · exact T.sub _ _ e
  · obtain ⟨a, xs, vs, q1, q2, q3, q4, q5, r⟩ := T.own i d e m
    refine ⟨a, xs, vs, q1, q2, q3, q4, ?_, r⟩
    have h : ¬ ObAt φ S a := fun h => by
      obtain ⟨_, e1, _⟩ := M.cl.get h
      rw [bas_at h, e1] at q5; cases q5
    rw [bas_no h] at q5 ⊢
    split at q5
    · cases q5
    · exact q4
  · obtain ⟨a, e0, e1, e2⟩ := M.cl.at_ i o e
    have h : ObAt φ S a := ⟨i, (List.getElem?_eq_some_iff.mp e).1, e0⟩
    obtain ⟨k1, k2⟩ := keep a h
    exact ⟨a, e0, k2, by rw [k1]; exact e2.mono (.refl φ) T.gf⟩
  · refine T.gh _ _ ?_
    have h : ¬ ObAt φ S a := fun h => by rw [M.nb a h] at e; cases e
    rw [bas_no h, e]
  · have h : ¬ ObAt φ S a := fun h => by rw [M.nb a h] at e1; cases e1
    have e3 : bas φ S B Hf H a = some o := by rw [bas_no h, e1]
    exact T.gn a o e3 (M.fn a o e1 e2)
/-! ### a snapshot -/
def shw (S : List Ob) : Option D → Option D
  | some (.obj i) => (match S[i]? with | some ⟨.ins, c, fs, xs⟩ => some (.ins c fs xs) | some ⟨.lst, _, _, xs⟩ => some (.lst xs) | _ => some (.obj i))
  | d => d
theorem MSR.back (M : MSR K φ B Bf O ρ S σ Hf H) (g : Gr (fzc φ S Hf H) H Hf' H') : MSR K φ B Bf O ρ S σ (ofc φ S Hf') H' ∧ Same Hf (ofc φ S Hf') := by
  have s1 : Same Hf (ofc φ S Hf') := fun a o e => by
    have h : ¬ ObAt φ S a := fun h => by
      obtain ⟨_, _, e2, _⟩ := M.cl.get h
      rw [e2] at e; cases e
    rw [ofc_no h]
    exact g.f _ _ ((fzc_no h).trans e)
  have s2 : Same (ofc φ S Hf') H' := fun a o e => by
    by_cases h : ObAt φ S a
    · rw [ofc_at h] at e; cases e
    · rw [ofc_no h] at e; exact g.s _ _ e
  refine ⟨?_, s1⟩
  have T : SR K φ Hf (bas φ S B Hf H) O ρ σ (ofc φ S Hf') H' := by
    refine ⟨M.sr.len, s2, s1, fun a o e => ?_, fun a o e1 e2 => ?_, fun i d e n => ?_, fun i d e m => ?_, M.sr.ne⟩
    · exact g.h _ _ (M.sr.gh _ _ e)
    · by_cases h : ObAt φ S a
      · exact ofc_at h
      · rw [ofc_no h]
        exact g.n a o (M.sr.gh _ _ e1) ((fzc_no h).trans e2)
    · obtain ⟨v, e1, r⟩ := M.sr.val i d e n
      exact ⟨v, e1, r.mono s1⟩
    · obtain ⟨a, xs, vs, q1, q2, q3, q4, q5, r⟩ := M.sr.own i d e m
      have h : ¬ ObAt φ S a := fun h => by
        rw [bas_at h, q3] at q5; cases q5
      exact ⟨a, xs, vs, q1, q2, g.h _ _ q3, (ofc_no h).trans (g.n a _ q3 ((fzc_no h).trans q4)), q5, r.mono s1⟩
  exact M.step T
end
end FL
namespace FL
variable [HW]
open PySem PySem.Spec L2

/-! ### what changes objects: expressions, tests, statements -/
def ME (X : Cx) (O : List Nat) (e : Expr) (F : Env → List Ob → Option (D × List Ob)) : Prop :=
  ∀ (φ : Nat → Option Addr) (B Bf : Hp) (ρ : Env) (S : List Ob) (σ : L2.St) (Hf H : Hp) (d : D) (S' : List Ob) (Q : VK), MSR X.K φ B Bf O ρ S σ Hf H → F ρ S = some (d, S') →
    (∀ φ' v Hf' H', Ext φ φ' → Same Hf Hf' → MSR X.K φ' B Bf O ρ S' σ Hf' H' → Rp X.K φ' Hf' d v → Q v H') → wE X e σ H Q
def MT (X : Cx) (O : List Nat) (e : Expr) (F : Env → List Ob → Option (Bool × List Ob)) : Prop :=
  ∀ (φ : Nat → Option Addr) (B Bf : Hp) (ρ : Env) (S : List Ob) (σ : L2.St) (Hf H : Hp) (b : Bool) (S' : List Ob) (Q : Bool → Hp → Prop), MSR X.K φ B Bf O ρ S σ Hf H → F ρ S = some (b, S') →
    (∀ φ' Hf' H', Ext φ φ' → Same Hf Hf' → MSR X.K φ' B Bf O ρ S' σ Hf' H' → Q b H') → wT X e σ H Q
inductive MOut where
  | nx (ρ : Env) (S : List Ob) | rt (d : D) (S : List Ob)
structure MDone (K : PySem.W.Frag) (φ : Nat → Option Addr) (B Bf : Hp) (S : List Ob) (Hf H : Hp) : Prop where
  sub : Same Hf H
  cl : Cells K φ Hf H S
  fb : Same B H
  fn : ∀ a o, B a = some o → Bf a = none → Hf a = none
  nb : ∀ a, ObAt φ S a → B a = none
def MPost (K : PySem.W.Frag) (φ : Nat → Option Addr) (B Bf : Hp) (O : List Nat) (Hf : Hp) (Dn : Ends) : MOut → Prop
  | .nx ρ S => ∀ φ' σ' Hf' H', Ext φ φ' → Same Hf Hf' → MSR K φ' B Bf O ρ S σ' Hf' H' → Dn.nx σ' H'
  | .rt d S => ∀ φ' v Hf' H', Ext φ φ' → Same Hf Hf' → MDone K φ' B Bf S Hf' H' → Rp K φ' Hf' d v → Dn.rt v H'
section
variable {K : PySem.W.Frag} {φ φ1 : Nat → Option Addr} {B Bf : Hp} {O : List Nat} {ρ : Env} {S : List Ob} {σ : L2.St} {Hf H Hf1 : Hp} {Dn : Ends}
theorem MPost.mono (e : Ext φ φ1) (s : Same Hf Hf1) : ∀ {out : MOut}, MPost K φ B Bf O Hf Dn out → MPost K φ1 B Bf O Hf1 Dn out
  | .nx _ _, h => fun φ' σ' Hf' H' e' s' => h φ' σ' Hf' H' (e.trans e') (s.trans s')
  | .rt _ _, h => fun φ' v Hf' H' e' s' => h φ' v Hf' H' (e.trans e') (s.trans s')
theorem MSR.done (M : MSR K φ B Bf O ρ S σ Hf H) : MDone K φ B Bf S Hf H := ⟨M.sub, M.cl, M.fb, M.fn, M.nb⟩
theorem MSR.set (M : MSR K φ B Bf O ρ S σ Hf H) (i : Nat) {d : D} {v : V} (r : Rp K φ Hf d v) : MSR K φ B Bf (O.filter (· != i)) (ρ.set i (some d)) S (σ.set i (some v)) Hf H := M.step (M.sr.set i r)
end
def MS (X : Cx) (O O' : List Nat) (st : Stmt) (G : Env → List Ob → Option MOut) : Prop :=
  ∀ (φ : Nat → Option Addr) (B Bf : Hp) (ρ : Env) (S : List Ob) (σ : L2.St) (Hf H : Hp) (out : MOut) (Dn : Ends), MSR X.K φ B Bf O ρ S σ Hf H → G ρ S = some out → MPost X.K φ B Bf O' Hf Dn out → wS X st Dn σ H
def MSs (X : Cx) (O O' : List Nat) (sts : List Stmt) (G : Env → List Ob → Option MOut) : Prop :=
  ∀ (φ : Nat → Option Addr) (B Bf : Hp) (ρ : Env) (S : List Ob) (σ : L2.St) (Hf H : Hp) (out : MOut) (Dn : Ends), MSR X.K φ B Bf O ρ S σ Hf H → G ρ S = some out → MPost X.K φ B Bf O' Hf Dn out → wSs X sts Dn σ H
/-! the mirror's words -/
def qSnap (F : Env → Option D) : Env → List Ob → Option (D × List Ob) := fun ρ S => match F (ρ.map (shw S)) with | some d => if noIns d = true then some (d, S) else none | none => none
def qTst (T : Env → Option Bool) : Env → List Ob → Option (Bool × List Ob) := fun ρ S => match T (ρ.map (shw S)) with | some b => some (b, S) | none => none
def mNil : Env → List Ob → Option MOut := fun ρ S => some (.nx ρ S)
def mSeq (F G : Env → List Ob → Option MOut) : Env → List Ob → Option MOut := fun ρ S => match F ρ S with | some (.nx ρ' S') => G ρ' S' | o => o
def mPure (G : Env → Option Out) : Env → List Ob → Option MOut := fun ρ S => match G ρ with | some (.nx ρ') => some (.nx ρ' S) | some (.rt d) => some (.rt d S) | _ => none
def mSet (i : Nat) (F : Env → List Ob → Option (D × List Ob)) : Env → List Ob → Option MOut := fun ρ S => match F ρ S with | some (d, S') => some (.nx (ρ.set i (some d)) S') | none => none
def mRet (F : Env → List Ob → Option (D × List Ob)) : Env → List Ob → Option MOut := fun ρ S => match F ρ S with | some (d, S') => some (.rt d S') | none => none
def mIf (T : Env → List Ob → Option (Bool × List Ob)) (F G : Env → List Ob → Option MOut) : Env → List Ob → Option MOut := fun ρ S => match T ρ S with | some (true, S') => F ρ S' | some (false, S') => G ρ S' | none => none
def mForget (vs : List Nat) (G : Env → List Ob → Option MOut) : Env → List Ob → Option MOut := fun ρ S => G (wipeE ρ vs) S
section
variable {X : Cx} {O O' O1 : List Nat} {e c : Expr} {st : Stmt} {sts a b : List Stmt} {F : Env → Option D} {T : Env → Option Bool} {p2 pos : Pos} {ME1 : Env → List Ob → Option (D × List Ob)} {MT1 : Env → List Ob → Option (Bool × List Ob)} {G G2 : Env → List Ob → Option MOut} {Gp : Env → Option Out}
theorem mss_nil : MSs X O O [] mNil := fun φ B Bf ρ S σ Hf H out Dn M h P => by
  cases h
  exact toSs pss_nil (P φ σ Hf H (.refl φ) (Same.refl _) M)
theorem mss_cons (h : MS X O O1 st G) (t : MSs X O1 O' sts G2) : MSs X O O' (st :: sts) (mSeq G G2) := fun φ B Bf ρ S σ Hf H out Dn M hF P => by
  refine toSs (pss_cons psW pssW) ?_
  unfold mSeq at hF
  split at hF
  · rename_i ρ' S' h1
    exact h φ B Bf ρ S σ Hf H _ _ M h1 fun φ1 σ1 Hf1 H1 e1 s1 M1 => t φ1 B Bf ρ' S' σ1 Hf1 H1 out Dn M1 hF (P.mono e1 s1)
  · rename_i hne
    refine h φ B Bf ρ S σ Hf H out _ M hF ?_
    cases out with
    | nx ρ' S' => exact absurd hF (hne ρ' S')
    | rt d S' => exact P
theorem MSR.weak {K : PySem.W.Frag} {φ : Nat → Option Addr} {B Bf : Hp} {ρ : Env} {S : List Ob} {σ : L2.St} {Hf H : Hp} (M : MSR K φ B Bf O ρ S σ Hf H) (L : List Nat) (hL : L.all (O.contains ·) = true) : ∃ Hf1, Same Hf Hf1 ∧ MSR K φ B Bf L ρ S σ Hf1 H := by
  obtain ⟨Hf1, s1, S1⟩ := M.sr.weak L hL
  exact ⟨Hf1, s1, M.step S1⟩
theorem mss_to (h : MSs X O O1 sts G) (hL : O'.all (O1.contains ·) = true) : MSs X O O' sts G := fun φ B Bf ρ S σ Hf H out Dn M hF P => by
  refine h φ B Bf ρ S σ Hf H out Dn M hF ?_
  cases out with
  | nx ρ' S' => exact fun φ' σ' Hf' H' e' s' M' => let ⟨Hf2, s2, M2⟩ := M'.weak O' hL; P φ' σ' Hf2 H' e' (s'.trans s2) M2
  | rt d S' => exact P
theorem mss_forget (vs : List Nat) (h : MSs X O O' sts G) : MSs X O O' sts (mForget vs G) := fun φ B Bf ρ S σ Hf H out Dn M hF P => by
  have M' : MSR X.K φ B Bf O (wipeE ρ vs) S σ Hf H := by
    refine M.step ⟨by rw [wipeE_len]; exact M.sr.len, M.sr.sub, M.sr.gf, M.sr.gh, M.sr.gn, fun i d e n => ?_, fun i d e m => ?_, fun i j d e a h1 h2 m1 m2 hne q1 => ?_⟩
    · exact M.sr.val i d (wipeE_some e).1 n
    · exact M.sr.own i d (wipeE_some e).1 m
    · exact M.sr.ne i j d e a (wipeE_some h1).1 (wipeE_some h2).1 m1 m2 hne q1
  exact h φ B Bf _ S σ Hf H out Dn M' hF P
theorem ms_pure (h : FS X false [] O O' st Gp) : MS X O O' st (mPure Gp) := fun φ B Bf ρ S σ Hf H out Dn M hF P => by
  unfold mPure at hF
  split at hF
  · rename_i ρ' h1
    cases hF
    exact h φ _ _ ρ σ Hf H _ Dn M.sr h1 fun σ1 Hf1 H1 s1 S1 => P φ σ1 Hf1 H1 (.refl φ) s1 (M.step S1)
  · rename_i d h1
    cases hF
    refine h φ _ _ ρ σ Hf H _ Dn M.sr h1 fun v Hf1 H1 g r => ?_
    have S1 : SR X.K φ Hf (bas φ S B Hf H) [] ([] : Env) ([] : L2.St) Hf1 H1 := ⟨rfl, g.s, g.f, g.h, g.n, fun i d e n => (by simp at e), fun i d e m => (by simp at m), fun i j d e a h => (by simp at h)⟩
    exact P φ v Hf1 H1 (.refl φ) g.f (M.step S1).done r
  · cases hF
theorem ms_set {i : Nat} {x : Str} (hN : X.N.Nodup) (hi : X.N[i]? = some x) (hx : Loc X.env.scope x) (h : ME X O e ME1) (hs : swapsWith e (some (.Name x p2)) pos.line X.env = pure false := by rfl) (hf : X.fn x = true ∨ X.env.scope.names.lookup x = some .local := by first | exact .inl rfl | exact .inr rfl | assumption) :
    MS X O (O.filter (· != i)) (.Assign [.Name x p2] e pos) (mSet i ME1) := fun φ B Bf ρ S σ Hf H out Dn M hF P => by
  unfold mSet at hF
  split at hF
  · rename_i d S' hd
    cases hF
    exact toS (ps_set hN hi hx peW hs hf) (h φ B Bf ρ S σ Hf H d S' _ M hd fun φ1 v Hf1 H1 e1 s1 M1 r1 => P φ1 _ Hf1 H1 e1 s1 (M1.set i r1))
  · cases hF
theorem ms_ret (h : ME X O e ME1) : MS X O O' (.Return (some e) pos) (mRet ME1) := fun φ B Bf ρ S σ Hf H out Dn M hF P => by
  unfold mRet at hF
  split at hF
  · rename_i d S' hd
    cases hF
    exact toS (ps_ret peW) (h φ B Bf ρ S σ Hf H d S' _ M hd fun φ1 v Hf1 H1 e1 s1 M1 r1 => P φ1 v Hf1 H1 e1 s1 M1.done r1)
  · cases hF
theorem ms_if (hc : MT X O c MT1) (h1 : MSs X O O' a G) (h2 : MSs X O O' b G2) : MS X O O' (.If c a b pos) (mIf MT1 G G2) := fun φ B Bf ρ S σ Hf H out Dn M hF P => by
  refine toS (ps_if ptW pssW pssW) ?_
  unfold mIf at hF
  split at hF
  · rename_i S' hb
    exact hc φ B Bf ρ S σ Hf H true S' _ M hb fun φ1 Hf1 H1 e1 s1 M1 => iteT (h1 φ1 B Bf ρ S' σ Hf1 H1 out Dn M1 hF (P.mono e1 s1))
  · rename_i S' hb
    exact hc φ B Bf ρ S σ Hf H false S' _ M hb fun φ1 Hf1 H1 e1 s1 M1 => iteF (h2 φ1 B Bf ρ S' σ Hf1 H1 out Dn M1 hF (P.mono e1 s1))
  · cases hF
end
end FL
namespace FL
variable [HW]
open PySem PySem.Spec L2

/-! ### behind a def, ahead of a def -/
section
variable {K : PySem.W.Frag} {φ φ1 : Nat → Option Addr} {B Bf : Hp} {O : List Nat} {ρ : Env} {S S1 : List Ob} {σ : L2.St} {Hf H Hf1 H1 : Hp}
theorem MDone.bas (D : MDone K φ B Bf S Hf H) : Same (bas φ S B Hf H) H := fun a o e => by
  by_cases h : ObAt φ S a
  · rw [bas_at h] at e; exact e
  · rw [bas_no h] at e
    split at e
    · rename_i o' hb
      cases e
      exact D.fb _ _ hb
    · exact D.sub _ _ e
theorem MDone.msr (D : MDone K φ B Bf S Hf H) (len : ρ.length = σ.length) (val : ∀ i d, ρ[i]? = some (some d) → i ∉ O → ∃ v, σ[i]? = some (some v) ∧ Rp K φ Hf d v)
    (own : ∀ i d, ρ[i]? = some (some d) → i ∈ O → ∃ a xs vs, d = .lst xs ∧ σ[i]? = some (some (.ref a)) ∧ H a = some (.lst vs) ∧ Hf a = none ∧ B a = none ∧ ¬ ObAt φ S a ∧ RpAll K φ Hf xs vs)
    (ne : ∀ i j d e a, ρ[i]? = some (some d) → ρ[j]? = some (some e) → i ∈ O → j ∈ O → i ≠ j → σ[i]? = some (some (.ref a)) → σ[j]? ≠ some (some (.ref a))) : MSR K φ B Bf O ρ S σ Hf H := by
  refine ⟨⟨len, D.sub, Same.refl _, D.bas, fun _ _ _ z => z, val, fun i d e m => ?_, ne⟩, D.cl, D.fb, D.fn, D.nb⟩
  obtain ⟨a, xs, vs, q1, q2, q3, q4, q5, q6, r⟩ := own i d e m
  refine ⟨a, xs, vs, q1, q2, q3, q4, ?_, r⟩
  rw [bas_no q6, q5]
  exact q4
theorem MSR.own (M : MSR K φ B Bf O ρ S σ Hf H) : ∀ i d, ρ[i]? = some (some d) → i ∈ O → ∃ a xs vs, d = .lst xs ∧ σ[i]? = some (some (.ref a)) ∧ H a = some (.lst vs) ∧ Hf a = none ∧ B a = none ∧ ¬ ObAt φ S a ∧ RpAll K φ Hf xs vs := fun i d e m => by
  obtain ⟨a, xs, vs, q1, q2, q3, q4, q5, r⟩ := M.sr.own i d e m
  have h : ¬ ObAt φ S a := fun h => by
    rw [bas_at h, q3] at q5; cases q5
  refine ⟨a, xs, vs, q1, q2, q3, q4, ?_, h, r⟩
  rw [bas_no h] at q5
  split at q5
  · cases q5
  · assumption
open Classical in
noncomputable def hid (φ : Nat → Option Addr) (S : List Ob) (H : Hp) : Hp := fun a => if ObAt φ S a then none else H a
theorem hid_at {a : Addr} (h : ObAt φ S a) : hid φ S H a = none := by unfold hid; rw [if_pos h]
theorem hid_no {a : Addr} (h : ¬ ObAt φ S a) : hid φ S H a = H a := by unfold hid; rw [if_neg h]
theorem MSR.hid (M : MSR K φ B Bf O ρ S σ Hf H) : MDone K φ (hid φ S H) Hf S Hf H := by
  refine ⟨M.sub, M.cl, fun a o e => ?_, fun _ _ _ z => z, fun a h => hid_at h⟩
  by_cases h : ObAt φ S a
  · rw [hid_at h] at e; cases e
  · rw [hid_no h] at e; exact e
theorem MSR.called (M : MSR K φ B Bf O ρ S σ Hf H) (e : Ext φ φ1) (s : Same Hf Hf1) (D : MDone K φ1 (FL.hid φ S H) Hf S1 Hf1 H1) : MSR K φ1 B Bf O ρ S1 σ Hf1 H1 := by
  have hb : ∀ a o, B a = some o → FL.hid φ S H a = some o := fun a o q => by
    have h : ¬ ObAt φ S a := fun h => by rw [M.nb a h] at q; cases q
    rw [hid_no h]; exact M.fb _ _ q
  have D' : MDone K φ1 B Bf S1 Hf1 H1 := by
    refine ⟨D.sub, D.cl, fun a o q => D.fb _ _ (hb a o q), fun a o q1 q2 => D.fn a o (hb a o q1) (M.fn a o q1 q2), fun a h => ?_⟩
    have := D.nb a h
    cases hq : B a with
    | none => rfl
    | some o => rw [hb a o hq] at this; cases this
  refine D'.msr M.sr.len (fun i d q n => ?_) (fun i d q m => ?_) M.sr.ne
  · obtain ⟨v, e1, r⟩ := M.sr.val i d q n
    exact ⟨v, e1, (r.ext e).mono s⟩
  · obtain ⟨a, xs, vs, q1, q2, q3, q4, q5, q6, r⟩ := M.own i d q m
    have h3 : FL.hid φ S H a = some (.lst vs) := by rw [hid_no q6]; exact q3
    exact ⟨a, xs, vs, q1, q2, D.fb _ _ h3, D.fn _ _ h3 q4, q5, fun z => (by rw [D.nb a z] at h3; cases h3), (RpAll.ext e r).mono s⟩
/-! a new object -/
def nphi (φ : Nat → Option Addr) (n : Nat) (x : Addr) : Nat → Option Addr := fun i => if i = n then some x else φ i
theorem nphi_ext {n : Nat} {x : Addr} (h : φ n = none) : Ext φ (nphi φ n x) := fun i a q => by
  unfold nphi
  split
  · rename_i hi; subst hi; rw [h] at q; cases q
  · exact q
theorem MSR.add {o : Ob} {x : Addr} (M : MSR K φ B Bf O ρ S σ Hf H) (h : OAt K φ Hf o (H x)) (hx : Hf x = none) (hB : B x = none) (new : ∀ i, φ i ≠ some x) (hown : ∀ i d, ρ[i]? = some (some d) → i ∈ O → σ[i]? ≠ some (some (.ref x))) :
    Ext φ (nphi φ S.length x) ∧ MSR K (nphi φ S.length x) B Bf O ρ (S ++ [o]) σ Hf H := by
  have ex : Ext φ (nphi φ S.length x) := nphi_ext (M.cl.out _ (Nat.le_refl _))
  refine ⟨ex, ?_⟩
  have lt : ∀ i, i < S.length → nphi φ S.length x i = φ i := fun i hi => by unfold nphi; rw [if_neg (by omega)]
  have at1 : ∀ a, ObAt (nphi φ S.length x) (S ++ [o]) a → ObAt φ S a ∨ a = x := fun a ⟨i, hi, e⟩ => by
    rw [List.length_append] at hi
    by_cases h1 : i < S.length
    · rw [lt i h1] at e; exact .inl ⟨i, h1, e⟩
    · have : i = S.length := by simp at hi; omega
      subst this
      unfold nphi at e
      rw [if_pos rfl] at e
      cases e
      exact .inr rfl
  have D : MDone K (nphi φ S.length x) B Bf (S ++ [o]) Hf H := by
    refine ⟨M.sub, ⟨fun i o e => ?_, fun i j a e1 e2 => ?_, fun i hi => ?_⟩, M.fb, M.fn, fun a ha => ?_⟩
    · by_cases h1 : i < S.length
      · rw [List.getElem?_append_left h1] at e
        obtain ⟨a, q1, q2, q3⟩ := M.cl.at_ i _ e
        exact ⟨a, (lt i h1).trans q1, q2, q3.mono ex (Same.refl _)⟩
      · rw [List.getElem?_append_right (by omega)] at e
        have h2 : i = S.length := by
          have := (List.getElem?_eq_some_iff.mp e).1
          simp at this; omega
        subst h2
        rw [Nat.sub_self] at e
        cases e
        exact ⟨x, by unfold nphi; rw [if_pos rfl], hx, h.mono ex (Same.refl _)⟩
    · unfold nphi at e1 e2
      split at e1
      · cases e1
        split at e2
        · rename_i a b; rw [a, b]
        · exact absurd e2 (new _)
      · split at e2
        · cases e2; exact absurd e1 (new _)
        · exact M.cl.inj _ _ _ e1 e2
    · rw [List.length_append] at hi
      simp at hi
      unfold nphi
      rw [if_neg (by omega)]
      exact M.cl.out _ (by omega)
    · rcases at1 a ha with q | q
      · exact M.nb a q
      · rw [q]; exact hB
  refine D.msr M.sr.len (fun i d q n => ?_) (fun i d q m => ?_) M.sr.ne
  · obtain ⟨v, e1, r⟩ := M.sr.val i d q n
    exact ⟨v, e1, r.ext ex⟩
  · obtain ⟨a, xs, vs, q1, q2, q3, q4, q5, q6, r⟩ := M.own i d q m
    refine ⟨a, xs, vs, q1, q2, q3, q4, q5, fun z => ?_, RpAll.ext ex r⟩
    rcases at1 a z with z | z
    · exact q6 z
    · exact hown i d q m (by rw [← z]; exact q2)
/-! an attribute set anew -/
def stF {α : Type} (f : Str) (v : α) : List Str → List α → List α
  | g :: fs, w :: ws => if g = f then v :: ws else w :: stF f v fs ws
  | _, ws => ws
theorem putF_st (f : Str) (v : V) : ∀ (fs : List Str) (ws : List V), fs.length = ws.length → fs.contains f = true → putF f v (fs.zip ws) = fs.zip (stF f v fs ws)
  | [], _, _, h => by simp at h
  | _ :: _, [], h, _ => by simp at h
  | g :: fs, w :: ws, hl, h => by
    show (if g = f then (g, v) :: fs.zip ws else (g, w) :: putF f v (fs.zip ws)) = (g :: fs).zip (if g = f then v :: ws else w :: stF f v fs ws)
    by_cases e : g = f
    · rw [if_pos e, if_pos e]; rfl
    · rw [if_neg e, if_neg e, putF_st f v fs ws (by simpa using hl) (by simpa [Ne.symm e] using h)]; rfl
theorem stF_len {α : Type} (f : Str) (v : α) : ∀ (fs : List Str) (ws : List α), (stF f v fs ws).length = ws.length
  | [], _ => by unfold stF; rfl
  | _ :: _, [] => rfl
  | g :: fs, w :: ws => by
    unfold stF
    split
    · rfl
    · simp [stF_len f v fs ws]
theorem RpAll.stF {f : Str} {d : D} {v : V} (q : Rp K φ Hf d v) : ∀ (fs : List Str) {xs : List D} {ws : List V}, RpAll K φ Hf xs ws → RpAll K φ Hf (FL.stF f d fs xs) (FL.stF f v fs ws)
  | [], _, _, r => by unfold FL.stF; exact r
  | _ :: _, _, _, .nil => .nil
  | g :: fs, _, _, .cons r t => by
    unfold FL.stF
    split
    · exact .cons q t
    · exact .cons r (RpAll.stF q fs t)
def putO (S : List Ob) (i : Nat) (f : Str) (d : D) : List Ob := match S[i]? with | some o => S.set i ⟨o.k, o.c, o.fs, stF f d o.fs o.xs⟩ | none => S
theorem MSR.put {f : Str} {d : D} {v : V} {i : Nat} {o : Ob} {a dx : Addr} {gs : List (Str × V)} (M : MSR K φ B Bf O ρ S σ Hf H) (ho : S[i]? = some o) (hk : o.k = .ins) (hp : φ i = some a) (h : H a = some (.ins (He.ga K o.c) dx gs)) (hf : o.fs.contains f = true) (r : Rp K φ Hf d v) :
    MSR K φ B Bf O ρ (putO S i f d) σ Hf (upd H a (.ins (He.ga K o.c) dx (putF f v gs))) := by
  obtain ⟨a', q1, q3, q0⟩ := M.cl.at_ i o ho
  rw [hp] at q1
  cases q1
  obtain ⟨dx', vs, q2, q4, q5⟩ := q0.ins hk
  rw [h] at q2
  cases q2
  have hi : i < S.length := (List.getElem?_eq_some_iff.mp ho).1
  have hat : ObAt φ S a := ⟨i, hi, hp⟩
  unfold putO
  rw [ho]
  have len : (S.set i ⟨o.k, o.c, o.fs, FL.stF f d o.fs o.xs⟩).length = S.length := List.length_set
  have D : MDone K φ B Bf (S.set i ⟨o.k, o.c, o.fs, FL.stF f d o.fs o.xs⟩) Hf (upd H a (.ins (He.ga K o.c) dx (putF f v (o.fs.zip vs)))) := by
    refine ⟨fun b u e => ?_, ⟨fun j o' e => ?_, M.cl.inj, fun j hj => M.cl.out j (by rw [len] at hj; exact hj)⟩, fun b u e => ?_, M.fn, fun b ⟨j, hj, e⟩ => M.nb b ⟨j, by rw [len] at hj; exact hj, e⟩⟩
    · have hb : b ≠ a := by rintro rfl; rw [q3] at e; cases e
      rw [upd_ne hb]; exact M.sub _ _ e
    · by_cases hji : j = i
      · subst hji
        rw [List.getElem?_set_self hi] at e
        cases e
        refine ⟨a, hp, q3, ?_⟩
        rw [hk]
        refine .mk_ins (vs := FL.stF f v o.fs vs) (dx := dx) ?_ (by rw [stF_len]; exact q4) (RpAll.stF r _ q5)
        rw [upd_same, putF_st f v _ _ q4 hf]
      · rw [List.getElem?_set_ne (Ne.symm hji)] at e
        obtain ⟨b, p1, p2, p3⟩ := M.cl.at_ j o' e
        refine ⟨b, p1, p2, ?_⟩
        have hb : b ≠ a := by rintro rfl; exact hji (M.cl.inj _ _ _ p1 hp)
        rw [upd_ne hb]; exact p3
    · have hb : b ≠ a := by rintro rfl; rw [M.nb _ hat] at e; cases e
      rw [upd_ne hb]; exact M.fb _ _ e
  refine D.msr M.sr.len M.sr.val (fun j d' q m => ?_) M.sr.ne
  obtain ⟨b, xs, ws, p1, p2, p3, p4, p5, p6, r'⟩ := M.own j d' q m
  have hb : b ≠ a := by rintro rfl; rw [h] at p3; cases p3
  exact ⟨b, xs, ws, p1, p2, by rw [upd_ne hb]; exact p3, p4, p5, fun ⟨j, hj, e⟩ => p6 ⟨j, by rw [len] at hj; exact hj, e⟩, r'⟩
end
end FL
namespace FL
variable [HW]
open PySem PySem.Spec L2

/-! ### arguments -/
def MA (X : Cx) (O : List Nat) (es : List Expr) (F : Env → List Ob → Option (List D × List Ob)) : Prop :=
  ∀ (φ : Nat → Option Addr) (B Bf : Hp) (ρ : Env) (S : List Ob) (σ : L2.St) (Hf H : Hp) (ds : List D) (S' : List Ob) (Q : List V → Hp → Prop), MSR X.K φ B Bf O ρ S σ Hf H → F ρ S = some (ds, S') →
    (∀ φ' vs Hf' H', Ext φ φ' → Same Hf Hf' → MSR X.K φ' B Bf O ρ S' σ Hf' H' → RpAll X.K φ' Hf' ds vs → Q vs H') → wA X es σ H Q
def qPure (F : Env → Option D) : Env → List Ob → Option (D × List Ob) := fun ρ S => match F ρ with | some d => some (d, S) | none => none
def qPureA (F : Env → Option (List D)) : Env → List Ob → Option (List D × List Ob) := fun ρ S => match F ρ with | some d => some (d, S) | none => none
def qNil : Env → List Ob → Option (List D × List Ob) := fun ρ S => some ([], S)
def qCons (F : Env → List Ob → Option (D × List Ob)) (G : Env → List Ob → Option (List D × List Ob)) : Env → List Ob → Option (List D × List Ob) := fun ρ S => match F ρ S with | some (d, S1) => (match G ρ S1 with | some (ds, S2) => some (d :: ds, S2) | none => none) | none => none
section
variable {X : Cx} {O : List Nat} {e : Expr} {es : List Expr} {F : Env → Option D} {Fs : Env → Option (List D)} {M1 : Env → List Ob → Option (D × List Ob)} {A1 : Env → List Ob → Option (List D × List Ob)}
theorem MSR.gr {K : PySem.W.Frag} {φ : Nat → Option Addr} {B Bf : Hp} {ρ : Env} {S : List Ob} {σ : L2.St} {Hf H Hf1 H1 : Hp} (M : MSR K φ B Bf O ρ S σ Hf H) (g : Gr Hf H Hf1 H1) : MSR K φ B Bf O ρ S σ Hf1 H1 := M.step (M.sr.gr g)
theorem me_pure (h : FE X O e F) : ME X O e (qPure F) := fun φ B Bf ρ S σ Hf H d S' Q M hF k => by
  unfold qPure at hF
  split at hF
  · rename_i d' hd
    cases hF
    exact h φ _ _ ρ σ Hf H d _ M.sr hd fun v Hf1 H1 g r => k φ v Hf1 H1 (.refl φ) g.f (M.gr g) r
  · cases hF
theorem ma_pure (h : FA X O es Fs) : MA X O es (qPureA Fs) := fun φ B Bf ρ S σ Hf H d S' Q M hF k => by
  unfold qPureA at hF
  split at hF
  · rename_i d' hd
    cases hF
    exact h φ _ _ ρ σ Hf H d _ M.sr hd fun v Hf1 H1 g r => k φ v Hf1 H1 (.refl φ) g.f (M.gr g) r
  · cases hF
theorem ma_nil : MA X O [] qNil := fun φ B Bf ρ S σ Hf H d S' Q M hF k => by
  cases hF
  exact toA pa_nil (k φ [] Hf H (.refl φ) (Same.refl _) M .nil)
theorem ma_cons (h : ME X O e M1) (t : MA X O es A1) (hs : starEach (e :: es) X.env = (false, eval e X.env) :: starEach es X.env := by rfl) : MA X O (e :: es) (qCons M1 A1) := fun φ B Bf ρ S σ Hf H ds S' Q M hF k => by
  unfold qCons at hF
  split at hF
  · rename_i d S1 h1
    split at hF
    · rename_i ds' S2 h2
      cases hF
      refine toA (pa_cons (peW (e := e)) (paW (es := es)) hs) ?_
      refine h φ B Bf ρ S σ Hf H d S1 _ M h1 fun φ1 v Hf1 H1 e1 s1 M1 r1 => ?_
      refine t φ1 B Bf ρ S1 σ Hf1 H1 ds' _ _ M1 h2 fun φ2 vs Hf2 H2 e2 s2 M2 r2 => ?_
      exact k φ2 (v :: vs) Hf2 H2 (e1.trans e2) (s1.trans s2) M2 (.cons ((r1.ext e2).mono s2) r2)
    · cases hF
  · cases hF
end
/-! ### the promise of a def that changes objects -/
def spE (K : PySem.W.Frag) (n : Nat) (mir : List D → List Ob → Option (D × List Ob)) : Sp := fun vs H Q _ => ∃ (φ : Nat → Option Addr) (B Bf : Hp) (S : List Ob) (Hf : Hp) (ds : List D) (d : D) (S' : List Ob), MDone K φ B Bf S Hf H ∧ RpAll K φ Hf ds vs ∧ ds.length = n ∧ mir ds S = some (d, S') ∧
  ∀ φ' v Hf' H', Ext φ φ' → Same Hf Hf' → MDone K φ' B Bf S' Hf' H' → Rp K φ' Hf' d v → Q v H'
def runM (N n : Nat) (G : Env → List Ob → Option MOut) (ds : List D) (S : List Ob) : Option (D × List Ob) := match G (envOf N n ds) S with
  | some (.rt d S') => some (d, S')
  | some (.nx _ S') => some (.non, S')
  | none => none
structure CalE (P : Program) (w : World) (K : PySem.W.Frag) (mg : Str → Option Value) (base : Heap) (k : Nat) (x : Str) (n : Nat) (mir : List D → List Ob → Option (D × List Ob)) : Prop where
  ok : ∃ (f : Addr) (fd : FuncData) (ps : List Str), FnOk P w K mg base CX0 k f fd ps (spE K n mir) ∧ mg x = some (.ref f) ∧ PySem.W.keepIn K (.ref f) = true ∧ Binds K fd ps []
structure CalME (P : Program) (w : World) (K : PySem.W.Frag) (mg : Str → Option Value) (base : Heap) (k : Nat) (c m : Str) (n : Nat) (mir : List D → List Ob → Option (D × List Ob)) : Prop where
  ok : ∃ (f : Addr) (fd : FuncData) (ps : List Str), FnOk P w K mg base CX0 k f fd ps (spE K n mir) ∧ Cls K (He.ga K c) ∧ Meth K (He.ga K c) m f ∧ Binds K fd ps []
section
variable {P : Program} {w : World} {K : PySem.W.Frag} {mg : Str → Option Value} {base : Heap} {k : Nat} {a : Addr} {ps N : List Str} {x q c m : Str} {st : Stmt} {G : Env → List Ob → Option MOut} {dvs : List V} {kws : List (Str × V)}
theorem fnOk_m {fd : FuncData} {N' n : Nat} (F : FunD K x q (defArgs st) (defBody st) (defScope st) dvs kws a fd) (S : FnScope N ps (defScope st)) (hN : N' = N.length) (hn : n = ps.length) (O' : List Nat)
    (hb : ∀ (cdv : Value) (A : Around) (outer : List PySem.Env) (s : Shared) (H : Hp) (E : XK), Room k (A.deeper (PyProof.Rows.envOfC q (defScope st) s.heap.objs.size a cdv)) →
      MSs (cxOf CX0 P w K mg base N q (defScope st) a cdv A outer s H E).nox [] O' (defBody st) G) : FnOk P w K mg base CX0 (k + 1) a fd ps (spE K n (runM N' n G)) := by
  subst hN hn
  refine FunD.ok F S (fun vs H Q E h => ?_) (fun cdv A outer s H vs Q E hr h => ?_)
  · obtain ⟨φ, B, Bf, S, Hf, ds, d, S', _, r, hl, _⟩ := h
    exact r.length.symm.trans hl
  · obtain ⟨φ, B, Bf, So, Hf, ds, d, S', hD, r, hl, hm, hk⟩ := h
    refine ⟨_, PSs.nox pssW, ?_⟩
    have hvl : vs.length = ps.length := r.length.symm.trans hl
    unfold L2.start
    rw [hvl]
    unfold runM envOf at hm
    have M0 : MSR K φ B Bf [] (ds.map some ++ List.replicate (N.length - ps.length) none) So (vs.map some ++ List.replicate (N.length - ps.length) none) Hf H :=
      hD.msr (by simp [r.length]) (fun i d e _ => r.val _ i d e) (fun i d _ m => absurd m (by simp)) (fun i j _ _ _ _ _ m => absurd m (by simp))
    split at hm
    · rename_i d' S1 h'
      cases hm
      exact hb cdv A outer s H E hr φ B Bf _ So _ Hf H _ _ M0 h' hk
    · rename_i ρ' S1 h'
      cases hm
      exact hb cdv A outer s H E hr φ B Bf _ So _ Hf H _ _ M0 h' fun φ' σ' Hf' H' e' s' M' => hk φ' _ Hf' H' e' s' M'.done .non
    · cases hm
theorem calE_of {N' n : Nat} (Dd : DefAt K x st a) (g : mg x = some (.ref a)) (S : FnScope N ps (defScope st)) (hN : N' = N.length) (hn : n = ps.length)
    (hbind : ∀ (kV doc pm : Value) (an : Option Addr) (cdv ct : Value) (us : List Value), us.length = ps.length → bindArgs (PySem.W.fnOf x x (defArgs st) (defBody st) (defScope st) .none kV doc pm an cdv ct) ⟨us, []⟩ = pure (ps.zip us))
    (O' : List Nat)
    (hb : ∀ (cdv : Value) (A : Around) (outer : List PySem.Env) (s : Shared) (H : Hp) (E : XK), Room k (A.deeper (PyProof.Rows.envOfC x (defScope st) s.heap.objs.size a cdv)) →
      MSs (cxOf CX0 P w K mg base N x (defScope st) a cdv A outer s H E).nox [] O' (defBody st) G) : CalE P w K mg base (k + 1) x n (runM N' n G) := by
  obtain ⟨fd, F⟩ := Dd
  exact ⟨a, fd, ps, fnOk_m F S hN hn O' hb, g, F.kp, FunD.bindsN F hbind⟩
theorem calME_of {N' n : Nat} (Dd : FnAt K m q st [] kws (He.fAd K (c, some m))) (hc : Cls K (He.ga K c)) (hm : Meth K (He.ga K c) m (He.ma K (He.ga K c) m)) (S : FnScope N ps (defScope st)) (hN : N' = N.length) (hn : n = ps.length)
    (hbind : ∀ (kV doc pm : Value) (an : Option Addr) (cdv ct : Value) (us : List Value), us.length = ps.length → bindArgs (PySem.W.fnOf m q (defArgs st) (defBody st) (defScope st) .none kV doc pm an cdv ct) ⟨us, []⟩ = pure (ps.zip us))
    (O' : List Nat)
    (hb : ∀ (cdv : Value) (A : Around) (outer : List PySem.Env) (s : Shared) (H : Hp) (E : XK), Room k (A.deeper (PyProof.Rows.envOfC q (defScope st) s.heap.objs.size (He.fAd K (c, some m)) cdv)) →
      MSs (cxOf CX0 P w K mg base N q (defScope st) (He.fAd K (c, some m)) cdv A outer s H E).nox [] O' (defBody st) G) : CalME P w K mg base (k + 1) c m n (runM N' n G) := by
  obtain ⟨fd, F⟩ := Dd
  exact ⟨_, fd, ps, fnOk_m F S hN hn O' hb, hc, hm, FunD.bindsN F hbind⟩
end
/-! ### calls -/
section
variable {X : Cx} {O : List Nat} {e o : Expr} {es : List Expr} {c m x f : Str} {p pos apos pos' : Pos} {Fo : Env → Option D} {A1 : Env → List Ob → Option (List D × List Ob)} {M1 : Env → List Ob → Option (D × List Ob)} {k j n i : Nat} {fs : List Str} {mi : List D → Option (List D)} {mir : List D → List Ob → Option (D × List Ob)}
def mNew (c : Str) (fs : List Str) (n : Nat) (mi : List D → Option (List D)) (A : Env → List Ob → Option (List D × List Ob)) : Env → List Ob → Option (D × List Ob) := fun ρ S => match A ρ S with
  | some (ds, S1) => if ds.length = n then (match mi ds with | some xs => some (.obj S1.length, S1 ++ [⟨.ins, c, fs, xs⟩]) | none => none) else none
  | none => none
def mCall (n : Nat) (mir : List D → List Ob → Option (D × List Ob)) (A : Env → List Ob → Option (List D × List Ob)) : Env → List Ob → Option (D × List Ob) := fun ρ S => match A ρ S with
  | some (ds, S1) => if ds.length = n then mir ds S1 else none
  | none => none
theorem MSR.into {K : PySem.W.Frag} {φ : Nat → Option Addr} {B Bf : Hp} {ρ : Env} {S S' : List Ob} {σ : L2.St} {Hf H : Hp} {ds : List D} {vs : List V} {d : D} {Q : VK} {E : XK} (M : MSR K φ B Bf O ρ S σ Hf H) (r : RpAll K φ Hf ds vs) (hl : ds.length = n) (hm : mir ds S = some (d, S'))
    (k : ∀ φ' v Hf' H', Ext φ φ' → Same Hf Hf' → MSR K φ' B Bf O ρ S' σ Hf' H' → Rp K φ' Hf' d v → Q v H') : spE K n mir vs H Q E :=
  ⟨φ, FL.hid φ S H, Hf, S, Hf, ds, d, S', M.hid, r, hl, hm, fun φ' v Hf' H' e s D r' => k φ' v Hf' H' e s (M.called e s D) r'⟩
theorem me_call (c : CalE X.prog X.w X.K X.mg X.base j x n mir) (hr : Room k X.A) (hk : j ≤ k) (hg : Gl X x) (ha : MA X O (e :: es) A1) (hdb : (x == ("__debug__" : Str)) = false := by decide +kernel) (he : starEach (e :: es) X.env = (false, eval e X.env) :: starEach es X.env := by rfl)
    (hpl : (backTo pos (starEach es X.env)).any (·.1) = false := by rfl) : ME X O (.Call (.Name x p) (e :: es) [] pos) (mCall n mir A1) := by
  obtain ⟨f, fd, ps, F, hm, hkp, hb⟩ := c.ok
  intro φ B Bf ρ S σ Hf H d S' Q M hF q
  unfold mCall at hF
  split at hF
  · rename_i ds S1 h1
    split at hF
    · rename_i hl
      refine toE (pe_call F (hr.mono hk) hg hm hkp hb .nil pass0 paW hdb he hpl) ?_
      refine ha φ B Bf ρ S σ Hf H ds S1 _ M h1 fun φ1 vs Hf1 H1 e1 s1 M1 r1 => ?_
      exact M1.into (by rw [List.append_nil]; exact r1) hl hF fun φ2 v Hf2 H2 e2 s2 M2 r2 => q φ2 v Hf2 H2 (e1.trans e2) (s1.trans s2) M2 r2
    · cases hF
  · cases hF
def mMe (c m : Str) (n : Nat) (mir : List D → List Ob → Option (D × List Ob)) (Fo : Env → Option D) (A : Env → List Ob → Option (List D × List Ob)) : Env → List Ob → Option (D × List Ob) := fun ρ S => match Fo ρ with
  | some (.obj i) => (match S[i]? with
    | some o => if o.k = .ins ∧ o.c = c ∧ o.fs.contains m = false then (match A ρ S with
      | some (ds, S1) => if ds.length + 1 = n then mir (.obj i :: ds) S1 else none
      | none => none) else none
    | none => none)
  | _ => none
theorem mMe_some {ρ : Env} {S S' : List Ob} {d : D} (h : mMe c m n mir Fo A1 ρ S = some (d, S')) : ∃ i o ds S1, Fo ρ = some (.obj i) ∧ S[i]? = some o ∧ o.k = .ins ∧ o.c = c ∧ o.fs.contains m = false ∧ A1 ρ S = some (ds, S1) ∧ ds.length + 1 = n ∧ mir (.obj i :: ds) S1 = some (d, S') := by
  unfold mMe at h
  split at h
  · rename_i i h1
    split at h
    · rename_i o h2
      split at h
      · rename_i h3
        split at h
        · rename_i ds S1 h4
          split at h
          · rename_i h5
            exact ⟨i, o, ds, S1, h1, h2, h3.1, h3.2.1, h3.2.2, h4, h5, h⟩
          · cases h
        · cases h
      · cases h
    · cases h
  · cases h
theorem me_meth {pl : Sem Bool} (cm : CalME X.prog X.w X.K X.mg X.base j c m n mir) (hr : Room k X.A) (hk : j ≤ k) (ho : FE X O o Fo) (ha : MA X O (e :: es) A1)
    (hst : starEach (e :: es) X.env = (false, eval e X.env) :: starEach es X.env := by rfl) (hpl : (backTo pos (starEach es X.env)).any (·.1) = false := by rfl)
    (ht : eval (.Call (.Attribute o m apos) (e :: es) [] pos) X.env = (do
      let ov ← eval o X.env
      standAt apos.atName
      let (f, first) ← holding [ov] (getMethod ov m pl)
      callWith pos f first (backTo pos (starEach (e :: es) X.env)) (backToKw pos (keywordEach [] X.env))) := by rfl) : ME X O (.Call (.Attribute o m apos) (e :: es) [] pos) (mMe c m n mir Fo A1) := by
  obtain ⟨f, fd, ps, Fn, hc, hm, hb⟩ := cm.ok
  intro φ B Bf ρ S σ Hf H d S' Q M hF q
  obtain ⟨i, o', ds, S1, h1, h2, h0, h3, h4, h5, h6, h7⟩ := mMe_some hF
  subst h3
  refine toE (pe_meth (pl := pl) peW hc hm Fn (hr.mono hk) hb .nil pass0 paW hst hpl ht) ?_
  refine ho φ _ _ ρ σ Hf H _ _ M.sr h1 fun v Hf1 H1 g1 r1 => ?_
  have M1 := M.gr g1
  cases r1 with
  | obj hi =>
    obtain ⟨a, q1, q3, q0⟩ := M1.cl.at_ _ _ h2
    rw [hi] at q1
    cases q1
    obtain ⟨dx, vs0, q2, q4, q5⟩ := q0.ins h0
    refine ⟨_, _, _, rfl, q2, zip_lookup_none _ _ h4, ?_⟩
    refine ha φ B Bf ρ S σ Hf1 H1 ds S1 _ M1 h5 fun φ2 vs Hf2 H2 e2 s2 M2 r2 => ?_
    refine M2.into (ds := .obj i :: ds) (.cons (.obj (e2 _ _ hi)) (by rw [List.append_nil]; exact r2)) h6 h7 fun φ3 v Hf3 H3 e3 s3 M3 r3 => q φ3 v Hf3 H3 (e2.trans e3) ((g1.f.trans s2).trans s3) M3 r3
/-! ### statements -/
theorem ms_expr {O' : List Nat} (h : ME X O e M1) (hs : swapsWith e none pos.line X.env = pure false := by rfl) : MS X O O (.Expr e pos) (fun ρ S => match M1 ρ S with | some (_, S') => some (.nx ρ S') | none => none) := fun φ B Bf ρ S σ Hf H out Dn M hF P => by
  dsimp only at hF
  split at hF
  · rename_i d S' hd
    cases hF
    exact toS (ps_expr peW hs) (h φ B Bf ρ S σ Hf H d S' _ M hd fun φ1 v Hf1 H1 e1 s1 M1 r1 => P φ1 _ Hf1 H1 e1 s1 M1)
  · cases hF
def mPut (c f : Str) (Fo : Env → Option D) (M1 : Env → List Ob → Option (D × List Ob)) : Env → List Ob → Option MOut := fun ρ S => match M1 ρ S with
  | some (d, S1) => (match Fo ρ with
    | some (.obj i) => (match S1[i]? with | some o => if o.k = .ins ∧ o.c = c ∧ o.fs.contains f = true ∧ o.fs.length < 1000 then some (.nx ρ (putO S1 i f d)) else none | none => none)
    | _ => none)
  | none => none
/-! x op= e, the class says how -/
def ipMe (K : PySem.W.Frag) (c : Str) (mir : List D → List Ob → Option (D × List Ob)) : TIp := fun x y H Q => ∃ a dx gs, x = .ref a ∧ H a = some (.ins (He.ga K c) dx gs) ∧ spE K 2 mir [x, y] H Q fun _ _ _ => False
def mAug (i : Nat) (c : Str) (mir : List D → List Ob → Option (D × List Ob)) (M1 : Env → List Ob → Option (D × List Ob)) : Env → List Ob → Option MOut := fun ρ S => match ρ[i]? with
  | some (some (.obj t)) => (match M1 ρ S with
    | some (y, S1) => (match S1[t]? with
      | some o => if o.k = .ins ∧ o.c = c then (match mir [.obj t, y] S1 with | some (d, S2) => some (.nx (ρ.set i (some d)) S2) | none => none) else none
      | none => none)
    | none => none)
  | _ => none
end
/-! ### the law's end -/
theorem law_spE {K : PySem.W.Frag} {m : List D → List Ob → Option (D × List Ob)} (hm : ∀ ns : List Int, ns.length ≤ 63 → ∃ S', m [.klst (ns.map D.int)] [] = some (.bl true, S')) :
    ∀ (H : Hp) (a : Addr) (ns : List Int), ns.length ≤ 63 → L2.Only H → SqL K H a (ns.map V.int) → spE K 1 m [.ref a] H (fun v _ => v = .bl true) fun _ _ _ => False := fun H a ns hl _ hS => by
  have r : ∀ l : List Int, RpAll K (fun _ => none) H (l.map D.int) (l.map V.int) := fun l => by
    induction l with
    | nil => exact .nil
    | cons z l ih => exact .cons (.int z) ih
  obtain ⟨S', e⟩ := hm ns hl
  refine ⟨fun _ => none, fun _ => none, fun _ => none, [], H, [.klst (ns.map D.int)], .bl true, S', ⟨Same.refl _, ⟨fun i o z => (by simp at z), fun i j a z => (by cases z), fun _ _ => rfl⟩, fun _ _ z => (by cases z), fun _ _ z => (by cases z), fun a ⟨i, hi, _⟩ => (by simp at hi)⟩, .cons (.klst hS (r ns)) .nil, rfl, e, fun φ' v Hf' H' _ _ _ r => by cases r; rfl⟩
end FL
namespace FL
variable [HW]
open PySem PySem.Spec PyProof.Rows L2

/-! ### *o, o an object of our own with __len__ whose __iter__ returns a tuple's iterator -/
section
variable {X : Cx} {pins : List (Addr × Obj)} {σ : L2.St} {c g : Str} {j k : Nat} {mir : List D → Option D}
variable {O : List Nat} {e : Expr} {es : List Expr} {F : Env → Option D} {Fs : Env → Option (List D)}
def aStarI (c g : Str) (mir : List D → Option D) (F : Env → Option D) (Fs : Env → Option (List D)) : Env → Option (List D) := fun ρ => match F ρ with
  | some d => (match fldD c g d with
    | some (.tup xs) => (match mir [d] with
      | some (.int n) => if 0 ≤ n ∧ n ≤ 1000 ∧ xs.length < 1000 then (match Fs ρ with | some ds => some (xs ++ ds) | none => none) else none
      | _ => none)
    | _ => none)
  | none => none
end
end FL
namespace FL
variable [HW]
open PySem PySem.Spec L2
section
variable {X : Cx} {O O' O1 : List Nat} {st : Stmt} {G : Env → List Ob → Option MOut}
end
end FL
namespace FL
variable [HW]
open PySem PySem.Spec L2

/-! ### lists that change -/
section
variable {X : Cx} {O O' : List Nat} {e o : Expr} {es : List Expr} {F Fo : Env → Option D} {p pos : Pos} {k : Nat} {M1 : Env → List Ob → Option (D × List Ob)} {A1 : Env → List Ob → Option (List D × List Ob)}
def mLst (F : Env → Option D) : Env → List Ob → Option (D × List Ob) := fun ρ S => match F ρ with
  | some (.lst xs) => some (.obj S.length, S ++ [⟨.lst, "", [], xs⟩])
  | _ => none
theorem me_list (h : FN X O e F) : ME X O e (mLst F) := fun φ B Bf ρ S σ Hf H d S' Q M hF q => by
  unfold mLst at hF
  split at hF
  · rename_i xs hd
    cases hF
    refine h φ _ _ ρ σ Hf H _ _ M.sr hd fun a ys vs Hf1 H1 hl g n1 n2 hs r => ?_
    cases hl
    have M1 := M.gr g
    have hB : B a = none := by
      cases hq : B a with
      | none => rfl
      | some u => rw [M.fb _ _ hq] at n1; cases n1
    have new : ∀ i, φ i ≠ some a := fun i hi => by
      by_cases hl : i < S.length
      · obtain ⟨_, z, _⟩ := M.cl.get ⟨i, hl, hi⟩
        rw [n1] at z; cases z
      · rw [M.cl.out i (by omega)] at hi; cases hi
    have hown : ∀ i d, ρ[i]? = some (some d) → i ∈ O → σ[i]? ≠ some (some (.ref a)) := fun i d hd hi z => by
      obtain ⟨b, xs', vs', q1, q2, q3, _⟩ := M.own i d hd hi
      rw [z] at q2
      cases q2
      rw [n1] at q3; cases q3
    obtain ⟨ex, M2⟩ := M1.add (o := ⟨.lst, "", [], xs⟩) (x := a) ⟨vs, r, hs⟩ n2 hB new hown
    exact q _ (.ref a) Hf1 H1 ex g.f M2 (.obj (by unfold nphi; rw [if_pos rfl]))
  · cases hF
/-! ### a look whose value is a new list -/
def qSnapN (F : Env → Option D) : Env → List Ob → Option (D × List Ob) := fun ρ S => match F (ρ.map (shw S)) with | some (.lst xs) => if noInss xs = true then some (.lst xs, S) else none | _ => none
/-! ### loops -/
def mLoop (g : D → Env → Option Env) (G : Env → List Ob → Option MOut) : List D → Env → List Ob → Option MOut
  | [], ρ, S => some (.nx ρ S)
  | d :: ds, ρ, S => match g d ρ with
    | none => none
    | some ρ1 => match G ρ1 S with
      | some (.nx ρ2 S2) => mLoop g G ds ρ2 S2
      | some (.rt d S2) => some (.rt d S2)
      | none => none
def mFor (Fi : Env → Option (List D)) (g : D → Env → Option Env) (G : Env → List Ob → Option MOut) : Env → List Ob → Option MOut := fun ρ S => match Fi ρ with | some ds => mLoop g G ds ρ S | none => none
end
end FL
namespace FL
variable [HW]
open PySem PySem.Spec L2

/-! ### lists that change in place -/
theorem OAt.lst {K : PySem.W.Frag} {φ : Nat → Option Addr} {Hf : Hp} {o : Ob} {x : Option HO} (h : OAt K φ Hf o x) (hk : o.k = .lst) : ∃ vs, x = Option.some (.lst vs) ∧ RpAll K φ Hf o.xs vs := by
  obtain ⟨vs, r, q⟩ := h
  rw [hk] at q
  exact ⟨vs, q, r⟩
section
variable {K : PySem.W.Frag} {φ : Nat → Option Addr} {B Bf : Hp} {O : List Nat} {ρ : Env} {S : List Ob} {σ : L2.St} {Hf H : Hp}
def setL (S : List Ob) (i : Nat) (ys : List D) : List Ob := match S[i]? with | some o => S.set i ⟨o.k, o.c, o.fs, ys⟩ | none => S
theorem MSR.putL {i : Nat} {o : Ob} {a : Addr} {ys : List D} {ws : List V} (M : MSR K φ B Bf O ρ S σ Hf H) (ho : S[i]? = some o) (hk : o.k = .lst) (hp : φ i = some a) (r : RpAll K φ Hf ys ws) :
    MSR K φ B Bf O ρ (setL S i ys) σ Hf (upd H a (.lst ws)) := by
  obtain ⟨a', q1, q3, q0⟩ := M.cl.at_ i o ho
  rw [hp] at q1
  cases q1
  obtain ⟨u, z1, _⟩ := M.cl.get ⟨i, (List.getElem?_eq_some_iff.mp ho).1, hp⟩
  have hi : i < S.length := (List.getElem?_eq_some_iff.mp ho).1
  have hat : ObAt φ S a := ⟨i, hi, hp⟩
  unfold setL
  rw [ho]
  dsimp only
  have len : (S.set i ⟨o.k, o.c, o.fs, ys⟩).length = S.length := List.length_set
  have D : MDone K φ B Bf (S.set i ⟨o.k, o.c, o.fs, ys⟩) Hf (upd H a (.lst ws)) := by
    refine ⟨fun b u e => ?_, ⟨fun j o' e => ?_, M.cl.inj, fun j hj => M.cl.out j (by rw [len] at hj; exact hj)⟩, fun b u e => ?_, M.fn, fun b ⟨j, hj, e⟩ => M.nb b ⟨j, by rw [len] at hj; exact hj, e⟩⟩
    · have hb : b ≠ a := by rintro rfl; rw [q3] at e; cases e
      rw [upd_ne hb]; exact M.sub _ _ e
    · by_cases hji : j = i
      · subst hji
        rw [List.getElem?_set_self hi] at e
        cases e
        refine ⟨a, hp, q3, ws, r, ?_⟩
        rw [hk]
        exact upd_same
      · rw [List.getElem?_set_ne (Ne.symm hji)] at e
        obtain ⟨b, p1, p2, p3⟩ := M.cl.at_ j o' e
        refine ⟨b, p1, p2, ?_⟩
        have hb : b ≠ a := by rintro rfl; exact hji (M.cl.inj _ _ _ p1 hp)
        rw [upd_ne hb]; exact p3
    · have hb : b ≠ a := by rintro rfl; rw [M.nb _ hat] at e; cases e
      rw [upd_ne hb]; exact M.fb _ _ e
  refine D.msr M.sr.len M.sr.val (fun j d' q m => ?_) M.sr.ne
  obtain ⟨b, xs, us, p1, p2, p3, p4, p5, p6, r'⟩ := M.own j d' q m
  have hb : b ≠ a := fun z => p6 (z ▸ hat)
  exact ⟨b, xs, us, p1, p2, by rw [upd_ne hb]; exact p3, p4, p5, fun ⟨j, hj, e⟩ => p6 ⟨j, by rw [len] at hj; exact hj, e⟩, r'⟩
end
section
variable {X : Cx} {O : List Nat} {e : Expr} {es : List Expr} {pos : Pos} {A1 : Env → List Ob → Option (List D × List Ob)}
def mMut (i : Nat) (f : List D → List D → Option (List D)) (A : Env → List Ob → Option (List D × List Ob)) : Env → List Ob → Option MOut := fun ρ S => match ρ[i]? with
  | some (some (.obj t)) => (match S[t]? with
    | some o => if o.k = .lst then (match A ρ S with
      | some (ds, S1) => (match S1[t]? with
        | some o1 => if o1.k = .lst then (match f o1.xs ds with | some ys => some (.nx ρ (setL S1 t ys)) | none => none) else none
        | none => none)
      | none => none) else none
    | none => none)
  | _ => none
theorem ms_mut {i : Nat} {x : Str} {name : Str} {bid : String} {xpos apos cpos : Pos} {r : V → List V → Hp → VK → Prop} {f : List D → List D → Option (List D)} (hN : X.N[i]? = some x) (hv : Vis X.env.scope x) (hO : O.contains i = false)
    (slot : Slot "list" name bid) (hty : typeOf (.builtin bid) = pure (.type "method_descriptor")) (hm : MtR X bid r)
    (hr : ∀ (φ : Nat → Option Addr) (Hf H : Hp) (a : Addr) (xs ds ys : List D) (vs us : List V) (Q : VK), Same Hf H → H a = some (.lst vs) → RpAll X.K φ Hf xs vs → RpAll X.K φ Hf ds us → f xs ds = some ys → (∀ z ws, RpAll X.K φ Hf ys ws → Q z (upd H a (.lst ws))) → r (.ref a) us H Q)
    (ha : MA X O (e :: es) A1) (hd : (x == ("__debug__" : Str)) = false := by decide +kernel) (hcd : (x == ("__classdict__" : Str)) = false := by decide +kernel)
    (hbase : attributeBase (.Name x xpos) name X.env (eval (.Name x xpos) X.env) = eval (.Name x xpos) X.env := by rfl)
    (hfew : ((backTo cpos (starEach (e :: es) X.env)).all (fun x => !x.1) && (backToKw cpos (keywordEach [] X.env)).all (fun x => x.1.isSome)
      && decide ((e :: es).length + ([] : List Keyword).length + (if ([] : List Keyword).isEmpty then 0 else 1) < 30)) = true := by rfl)
    (hsx : swapsWith (.Call (.Attribute (.Name x xpos) name apos) (e :: es) [] cpos) none pos.line X.env = pure false := by rfl) (hline : (apos.endLine == cpos.line) = true := by rfl) (hs : starEach (e :: es) X.env = (false, eval e X.env) :: starEach es X.env := by rfl) (hplain : (backTo cpos (starEach es X.env)).any (·.1) = false := by rfl) :
    MS X O O (.Expr (.Call (.Attribute (.Name x xpos) name apos) (e :: es) [] cpos) pos) (mMut i f A1) := fun φ B Bf ρ S σ Hf H out Dn M hF P => by
  unfold mMut at hF
  split at hF
  · rename_i t ht
    split at hF
    · rename_i o h1
      split at hF
      · rename_i hk
        split at hF
        · rename_i ds S1 h2
          split at hF
          · rename_i o1 h3
            split at hF
            · rename_i hk1
              split at hF
              · rename_i ys h4
                cases hF
                have hno : i ∉ O := fun z => by
                  have := List.contains_iff_mem.mpr z
                  rw [hO] at this; cases this
                obtain ⟨v, e0, r0⟩ := M.sr.val i _ ht hno
                cases r0 with
                | obj hp =>
                  obtain ⟨b0, w1, w2, w3⟩ := M.cl.at_ _ _ h1
                  rw [hp] at w1
                  cases w1
                  obtain ⟨vs0, w4, _⟩ := w3.lst hk
                  refine toS (ps_expr (pe_bm PySem.F.plainAttrs_list slot hty hm (pe_var hN hv hd hcd) paW hbase hfew hline hs hplain) hsx) ?_
                  refine ⟨_, e0, .inl ⟨rfl, vs0, .inl (.inl w4)⟩, ?_⟩
                  refine ha φ B Bf ρ S σ Hf H ds S1 _ M h2 fun φ1 us Hf1 H1 e1 s1 M1 r1 => ?_
                  obtain ⟨a', y1, y2, y3⟩ := M1.cl.at_ _ _ h3
                  rw [e1 _ _ hp] at y1
                  cases y1
                  obtain ⟨vs1, y4, y5⟩ := y3.lst hk1
                  exact hr φ1 Hf1 H1 _ o1.xs ds ys vs1 us _ M1.sub y4 y5 r1 h4 fun z ws rw' => P φ1 σ Hf1 _ e1 s1 (M1.putL h3 hk1 (e1 _ _ hp) rw')
              · cases hF
            · cases hF
          · cases hF
        · cases hF
      · cases hF
    · cases hF
  · cases hF
def mPutI (i : Nat) (Fi : Env → Option D) (M1 : Env → List Ob → Option (D × List Ob)) : Env → List Ob → Option MOut := fun ρ S => match M1 ρ S with
  | some (d, S1) => (match Fi ρ with
    | some (.int k) => (match ρ[i]? with
      | some (some (.obj t)) => (match S1[t]? with
        | some o => if o.k = .lst then (match ixN o.xs.length k with | some j => some (.nx ρ (setL S1 t (o.xs.set j d))) | none => none) else none
        | none => none)
      | _ => none)
    | _ => none)
  | none => none
theorem ms_putI {i : Nat} {x : Str} {ix : Expr} {xpos spos : Pos} {Fi : Env → Option D} {M1 : Env → List Ob → Option (D × List Ob)} (hN : X.N[i]? = some x) (hv : Vis X.env.scope x) (hO : O.contains i = false) (h : ME X O e M1) (hi : FE X O ix Fi)
    (hd : (x == ("__debug__" : Str)) = false := by decide +kernel) (hcd : (x == ("__classdict__" : Str)) = false := by decide +kernel)
    (hsub : ∀ v, assign (.Subscript (.Name x xpos) ix spos) X.env v = (do
      let ov ← holding [v] (eval (.Name x xpos) X.env)
      let iv ← holding [v, ov] (eval ix X.env)
      standAt spos
      holding [v, ov, iv] (setItem ov iv v)
      release [v, ov, iv] []) := by intro _; rfl)
    (hs : swapsWithSole [.Subscript (.Name x xpos) ix spos] e pos.line X.env = pure false := by rfl) (hw : swappedStores [.Subscript (.Name x xpos) ix spos] e X.env = pure none := by rfl)
    (h1 : (assignEach [.Subscript (.Name x xpos) ix spos] X.env).map (·.2) = [assign (.Subscript (.Name x xpos) ix spos) X.env] := by rfl) :
    MS X O O (.Assign [.Subscript (.Name x xpos) ix spos] e pos) (mPutI i Fi M1) := fun φ B Bf ρ S σ Hf H out Dn M hF P => by
  unfold mPutI at hF
  split at hF
  · rename_i d S1 hd'
    split at hF
    · rename_i k hk
      split at hF
      · rename_i t ht
        split at hF
        · rename_i o h3
          split at hF
          · rename_i hk1
            split at hF
            · rename_i j hj
              cases hF
              have hno : i ∉ O := fun z => by
                have := List.contains_iff_mem.mpr z
                rw [hO] at this; cases this
              obtain ⟨v0, e0, r0⟩ := M.sr.val i _ ht hno
              cases r0 with
              | obj hp =>
                refine toS (ps_asg peW (pg_sub (pe_var hN hv hd hcd) peW set_list hsub) hs hw h1) ?_
                refine h φ B Bf ρ S σ Hf H d S1 _ M hd' fun φ1 v Hf1 H1 e1 s1 M1 r1 => ?_
                refine ⟨_, e0, ?_⟩
                refine hi φ1 _ _ ρ σ Hf1 H1 _ _ M1.sr hk fun z Hf2 H2 g2 r2 => ?_
                cases r2
                have M2 := M1.gr g2
                obtain ⟨b, y1, y2, y3⟩ := M2.cl.at_ _ _ h3
                rw [e1 _ _ hp] at y1
                cases y1
                obtain ⟨vs1, y4, y5⟩ := y3.lst hk1
                refine ⟨_, vs1, k, j, rfl, rfl, y4, by rw [← y5.length]; exact hj, ?_⟩
                exact P φ1 σ Hf2 _ e1 (s1.trans g2.f) (M2.putL h3 hk1 (e1 _ _ hp) (y5.set j (r1.mono g2.f)))
            · cases hF
          · cases hF
        · cases hF
      · cases hF
    · cases hF
  · cases hF
def mMutE (M0 : Env → List Ob → Option (D × List Ob)) (f : List D → List D → Option (List D)) (A : Env → List Ob → Option (List D × List Ob)) : Env → List Ob → Option MOut := fun ρ S => match M0 ρ S with
  | some (.obj t, S0) => (match S0[t]? with
    | some o => if o.k = .lst then (match A ρ S0 with
      | some (ds, S1) => (match S1[t]? with
        | some o1 => if o1.k = .lst then (match f o1.xs ds with | some ys => some (.nx ρ (setL S1 t ys)) | none => none) else none
        | none => none)
      | none => none) else none
    | none => none)
  | _ => none
theorem ms_mutE {o : Expr} {M0 : Env → List Ob → Option (D × List Ob)} {name : Str} {bid : String} {apos cpos : Pos} {r : V → List V → Hp → VK → Prop} {f : List D → List D → Option (List D)} (hFo : ME X O o M0)
    (slot : Slot "list" name bid) (hty : typeOf (.builtin bid) = pure (.type "method_descriptor")) (hm : MtR X bid r)
    (hr : ∀ (φ : Nat → Option Addr) (Hf H : Hp) (a : Addr) (xs ds ys : List D) (vs us : List V) (Q : VK), Same Hf H → H a = some (.lst vs) → RpAll X.K φ Hf xs vs → RpAll X.K φ Hf ds us → f xs ds = some ys → (∀ z ws, RpAll X.K φ Hf ys ws → Q z (upd H a (.lst ws))) → r (.ref a) us H Q)
    (ha : MA X O (e :: es) A1)
    (hbase : attributeBase o name X.env (eval o X.env) = eval o X.env := by rfl)
    (hfew : ((backTo cpos (starEach (e :: es) X.env)).all (fun x => !x.1) && (backToKw cpos (keywordEach [] X.env)).all (fun x => x.1.isSome)
      && decide ((e :: es).length + ([] : List Keyword).length + (if ([] : List Keyword).isEmpty then 0 else 1) < 30)) = true := by rfl)
    (hsx : swapsWith (.Call (.Attribute o name apos) (e :: es) [] cpos) none pos.line X.env = pure false := by rfl) (hline : (apos.endLine == cpos.line) = true := by rfl) (hs : starEach (e :: es) X.env = (false, eval e X.env) :: starEach es X.env := by rfl) (hplain : (backTo cpos (starEach es X.env)).any (·.1) = false := by rfl) :
    MS X O O (.Expr (.Call (.Attribute o name apos) (e :: es) [] cpos) pos) (mMutE M0 f A1) := fun φ B Bf ρ S σ Hf H out Dn M hF P => by
  unfold mMutE at hF
  split at hF
  · rename_i t S0 ht
    split at hF
    · rename_i o0 h1
      split at hF
      · rename_i hk
        split at hF
        · rename_i ds S1 h2
          split at hF
          · rename_i o1 h3
            split at hF
            · rename_i hk1
              split at hF
              · rename_i ys h4
                cases hF
                refine toS (ps_expr (pe_bm PySem.F.plainAttrs_list slot hty hm peW paW hbase hfew hline hs hplain) hsx) ?_
                refine hFo φ B Bf ρ S σ Hf H _ S0 _ M ht fun φ0 v0 Hf0 H0 e0 s0 M0 r0 => ?_
                cases r0 with
                | obj hp =>
                  obtain ⟨b0, w1, w2, w3⟩ := M0.cl.at_ _ _ h1
                  rw [hp] at w1
                  cases w1
                  obtain ⟨vs0, w4, _⟩ := w3.lst hk
                  refine .inl ⟨rfl, vs0, .inl (.inl w4)⟩ |> fun z => ⟨z, ?_⟩
                  refine ha φ0 B Bf ρ S0 σ Hf0 H0 ds S1 _ M0 h2 fun φ1 us Hf1 H1 e1 s1 M1 r1 => ?_
                  obtain ⟨a', y1, y2, y3⟩ := M1.cl.at_ _ _ h3
                  rw [e1 _ _ hp] at y1
                  cases y1
                  obtain ⟨vs1, y4, y5⟩ := y3.lst hk1
                  exact hr φ1 Hf1 H1 _ o1.xs ds ys vs1 us _ M1.sub y4 y5 r1 h4 fun z ws rw' => P φ1 σ Hf1 _ (e0.trans e1) (s0.trans s1) (M1.putL h3 hk1 (e1 _ _ hp) rw')
              · cases hF
            · cases hF
          · cases hF
        · cases hF
      · cases hF
    · cases hF
  · cases hF
end
end FL
namespace FL
variable [HW]
open PySem PySem.Spec L2

/-! ### dicts with text keys: their words -/
section
variable {α β : Type}
def dget (k : Str) : List Str → List α → Option α
  | g :: gs, x :: xs => if g = k then some x else dget k gs xs
  | _, _ => none
def dhas (k : Str) : List Str → Bool
  | [] => false
  | g :: gs => if g = k then true else dhas k gs
def rplX (k : Str) (d : α) : List Str → List α → List α
  | g :: gs, x :: xs => (if g = k then d else x) :: rplX k d gs xs
  | _, xs => xs
def dputK (ks : List Str) (k : Str) : List Str := if dhas k ks = true then ks else ks ++ [k]
def dputX (k : Str) (d : α) (ks : List Str) (xs : List α) : List α := if dhas k ks = true then rplX k d ks xs else xs ++ [d]
def ddelK (k : Str) : List Str → List Str
  | [] => []
  | g :: gs => if g = k then ddelK k gs else g :: ddelK k gs
def ddelX (k : Str) : List Str → List α → List α
  | g :: gs, x :: xs => if g = k then ddelX k gs xs else x :: ddelX k gs xs
  | _, _ => []
theorem rplX_len (k : Str) (d : α) : ∀ (ks : List Str) (xs : List α), (rplX k d ks xs).length = xs.length
  | [], xs => by unfold rplX; rfl
  | _ :: _, [] => rfl
  | g :: gs, x :: xs => by unfold rplX; simp [rplX_len k d gs xs]
theorem dput_len (k : Str) (d : α) {ks : List Str} {xs : List α} (h : ks.length = xs.length) : (dputK ks k).length = (dputX k d ks xs).length := by
  unfold dputK dputX
  split
  · rw [rplX_len]; exact h
  · simp [h]
theorem ddel_len (k : Str) : ∀ {ks : List Str} {xs : List α}, ks.length = xs.length → (ddelK k ks).length = (ddelX k ks xs).length
  | [], _, _ => by unfold ddelX; rfl
  | _ :: _, [], h => by simp at h
  | g :: gs, x :: xs, h => by
    have := ddel_len k (ks := gs) (xs := xs) (by simpa using h)
    show (if g = k then ddelK k gs else g :: ddelK k gs).length = (if g = k then ddelX k gs xs else x :: ddelX k gs xs).length
    by_cases e : g = k
    · rw [if_pos e, if_pos e]; exact this
    · rw [if_neg e, if_neg e]; simp [this]
abbrev kz (ks : List Str) (xs : List α) : List (Key × α) := (ks.map Sum.inr).zip xs
end
theorem valV_kz (k : Str) : ∀ (ks : List Str) (vs : List V), valV (kz ks vs) (.inr k) = dget k ks vs
  | [], _ => by unfold dget; rfl
  | _ :: _, [] => by unfold dget; rfl
  | g :: gs, v :: vs => by
    show valV ((Sum.inr g, v) :: kz gs vs) (.inr k) = _
    unfold dget
    by_cases e : g = k
    · rw [if_pos e, valV_pos (by simpa using e)]
    · rw [if_neg e, valV_neg (by simpa using e)]; exact valV_kz k gs vs
theorem any_kz (k : Str) : ∀ (ks : List Str) (vs : List V), ks.length = vs.length → (kz ks vs).any (fun kv => decide (kv.1 = Sum.inr k)) = dhas k ks
  | [], _, _ => rfl
  | _ :: _, [], h => by simp at h
  | g :: gs, v :: vs, h => by
    show (decide ((Sum.inr g : Key) = Sum.inr k) || (kz gs vs).any _) = _
    rw [any_kz k gs vs (by simpa using h)]
    show _ = (if g = k then true else dhas k gs)
    by_cases e : g = k
    · simp [e]
    · have e' : ¬ (Sum.inr g : Key) = Sum.inr k := by simpa using e
      simp [e, e']
theorem dget_has {α : Type} (k : Str) : ∀ (ks : List Str) (xs : List α), ks.length = xs.length → (dget k ks xs).isSome = dhas k ks
  | [], _, _ => by unfold dget; rfl
  | _ :: _, [], h => by simp at h
  | g :: gs, x :: xs, h => by
    unfold dget dhas
    split
    · rfl
    · exact dget_has k gs xs (by simpa using h)
theorem map_kz (k : Str) (v : V) : ∀ (ks : List Str) (vs : List V), (kz ks vs).map (fun kv => if kv.1 = Sum.inr k then (kv.1, v) else kv) = kz ks (rplX k v ks vs)
  | [], _ => rfl
  | _ :: _, [] => rfl
  | g :: gs, w :: ws => by
    show (if (Sum.inr g : Key) = Sum.inr k then ((Sum.inr g : Key), v) else (Sum.inr g, w)) :: (kz gs ws).map _ = (Sum.inr g, if g = k then v else w) :: kz gs (rplX k v gs ws)
    rw [map_kz k v gs ws]
    by_cases e : g = k
    · subst e; simp
    · have e' : ¬ (Sum.inr g : Key) = Sum.inr k := by simpa using e
      simp [e, e']
theorem zip_snoc {α β : Type} (a : α) (b : β) : ∀ (xs : List α) (ys : List β), xs.length = ys.length → (xs ++ [a]).zip (ys ++ [b]) = xs.zip ys ++ [(a, b)]
  | [], [], _ => rfl
  | [], _ :: _, h => by simp at h
  | _ :: _, [], h => by simp at h
  | x :: xs, y :: ys, h => by simp [zip_snoc a b xs ys (by simpa using h)]
theorem putK_kz (k : Str) (v : V) {ks : List Str} {vs : List V} (h : ks.length = vs.length) : putK (kz ks vs) (.inr k) v = kz (dputK ks k) (dputX k v ks vs) := by
  unfold putK dputK dputX
  rw [any_kz k ks vs h]
  by_cases e : dhas k ks = true
  · rw [if_pos e, if_pos e, if_pos e]
    exact map_kz k v ks vs
  · rw [if_neg e, if_neg e, if_neg e]
    show _ = ((ks ++ [k]).map Sum.inr).zip (vs ++ [v])
    rw [List.map_append]
    exact (zip_snoc _ _ _ _ (by simpa using h)).symm
theorem dropK_kz (k : Str) : ∀ (ks : List Str) (vs : List V), dropK (kz ks vs) (.inr k) = kz (ddelK k ks) (ddelX k ks vs)
  | [], _ => rfl
  | g :: gs, [] => by
    show [] = ((ddelK k (g :: gs)).map Sum.inr).zip (ddelX k (g :: gs) ([] : List V))
    unfold ddelX
    simp
  | g :: gs, v :: vs => by
    have ih := dropK_kz k gs vs
    unfold dropK at ih ⊢
    show List.filter (fun kv => decide (kv.1 ≠ Sum.inr k)) (((Sum.inr g : Key), v) :: kz gs vs) = _
    rw [List.filter_cons]
    unfold ddelK ddelX
    by_cases e : g = k
    · rw [if_pos e, if_pos e]
      have : ¬ (decide (((Sum.inr g : Key), v).1 ≠ Sum.inr k) = true) := by simp [e]
      rw [if_neg this, ih]
    · rw [if_neg e, if_neg e]
      have : decide (((Sum.inr g : Key), v).1 ≠ Sum.inr k) = true := by simp [e]
      rw [if_pos this, ih]
      rfl
section
variable {K : PySem.W.Frag} {φ : Nat → Option Addr} {H : Hp}
theorem RpAll.dget (k : Str) : ∀ (ks : List Str) {xs : List D} {vs : List V}, RpAll K φ H xs vs → (∀ d, FL.dget k ks xs = some d → ∃ v, FL.dget k ks vs = some v ∧ Rp K φ H d v) ∧ (FL.dget k ks xs = none → FL.dget k ks vs = none)
  | [], _, _, r => by unfold FL.dget; exact ⟨fun _ h => (nomatch h), fun _ => rfl⟩
  | _ :: _, _, _, .nil => by unfold FL.dget; exact ⟨fun _ h => (nomatch h), fun _ => rfl⟩
  | g :: gs, _, _, .cons r t => by
    unfold FL.dget
    by_cases e : g = k
    · rw [if_pos e, if_pos e]; exact ⟨fun d h => by cases h; exact ⟨_, rfl, r⟩, fun h => nomatch h⟩
    · rw [if_neg e, if_neg e]; exact RpAll.dget k gs t
theorem RpAll.rplX {k : Str} {d : D} {v : V} (q : Rp K φ H d v) : ∀ (ks : List Str) {xs : List D} {vs : List V}, RpAll K φ H xs vs → RpAll K φ H (FL.rplX k d ks xs) (FL.rplX k v ks vs)
  | [], _, _, r => by unfold FL.rplX; exact r
  | _ :: _, _, _, .nil => .nil
  | g :: gs, _, _, .cons r t => by
    unfold FL.rplX
    split
    · exact .cons q (RpAll.rplX q gs t)
    · exact .cons r (RpAll.rplX q gs t)
theorem RpAll.dputX {k : Str} {d : D} {v : V} (q : Rp K φ H d v) {ks : List Str} {xs : List D} {vs : List V} (r : RpAll K φ H xs vs) : RpAll K φ H (FL.dputX k d ks xs) (FL.dputX k v ks vs) := by
  unfold FL.dputX
  split
  · exact r.rplX q ks
  · exact r.append (.one q)
theorem RpAll.ddelX {k : Str} : ∀ (ks : List Str) {xs : List D} {vs : List V}, RpAll K φ H xs vs → RpAll K φ H (FL.ddelX k ks xs) (FL.ddelX k ks vs)
  | [], _, _, r => by unfold FL.ddelX; exact .nil
  | _ :: _, _, _, .nil => by unfold FL.ddelX; exact .nil
  | g :: gs, _, _, .cons r t => by
    unfold FL.ddelX
    split
    · exact RpAll.ddelX gs t
    · exact .cons r (RpAll.ddelX gs t)
end
theorem rd_mono {H H' : Hp} (e : Same H H') {a : Addr} {u : HO} (h : Rd H a u) : Rd H' a u := h.imp (e _ _) fun ⟨o, h⟩ => ⟨o, e _ _ h⟩
theorem dget_rd {H : Hp} {a : Addr} {kvs : List (Key × V)} {k : Key} (e : Rd H a (.dK kvs)) : DGet H a (kV k) (valV kvs k) := .inl ⟨kvs, k, e, rfl, rfl⟩
/-! ### a dict that is not changed any more -/
def dgetD (x y : D) : Option D := match x, y with | .dct ks xs, .str k => dget k ks xs | _, _ => none
def dget1D (x y : D) : Option D := match x, y with | .dct ks xs, .str k => (match dget k ks xs with | some d => some d | none => if dhas k ks = false then some .non else none) | _, _ => none
def dinD (neg : Bool) (y x : D) : Option D := match x, y with | .dct ks xs, .str k => some (.bl (if neg = true then !dhas k ks else dhas k ks)) | _, _ => none
section
variable {X : Cx} {O : List Nat} {o i e : Expr} {F G : Env → Option D} {p pos apos cpos : Pos}
theorem fe_dget (hu : X.A.units + 64 < cLine) (ho : FE X O o F) (hi : FE X O i G) (hs : NoSl i := by intro _ _; rfl) : FE X O (.Subscript o i pos) (e2 dgetD F G) := fun φ Hf0 H0 ρ σ Hf H d Q S hF k => by
  obtain ⟨x, y, h1, h2, h3⟩ := e2_some hF
  unfold dgetD at h3
  split at h3
  · rename_i ks xs z
    refine toE (pe_dget (by omega) peW peW hs) ?_
    refine ho φ Hf0 H0 ρ σ Hf H _ _ S h1 fun v1 Hf1 H1 g1 r1 => ?_
    refine hi φ Hf0 H0 ρ σ Hf1 H1 _ _ (S.gr g1) h2 fun v2 Hf2 H2 g2 r2 => ?_
    have r1' := r1.mono g2.f
    cases r2
    cases r1' with
    | @dct a _ vs _ q l r =>
      obtain ⟨v, e1, r3⟩ := (RpAll.dget z ks r).1 _ h3
      exact ⟨a, v, rfl, by have := dget_rd (k := .inr z) (rd_mono g2.s q); rw [valV_kz, e1] at this; exact this, k v Hf2 H2 (g1.trans g2) r3⟩
  · cases h3
theorem fe_din (hu : X.A.units + 64 < cLine) (hi : FE X O i F) (ho : FE X O o G) (hm : behindInMarks .In o = false := by with_unfolding_all rfl) : FE X O (.Compare i [.In] [o] pos) (e2 (dinD false) F G) := fun φ Hf0 H0 ρ σ Hf H d Q S hF k => by
  obtain ⟨x, y, h1, h2, h3⟩ := e2_some hF
  unfold dinD at h3
  split at h3
  · rename_i _ _ ks xs z
    cases h3
    refine toE (pe_cmp (pc_din (by omega) peW peW) hm) ?_
    refine hi φ Hf0 H0 ρ σ Hf H _ _ S h1 fun v1 Hf1 H1 g1 r1 => ?_
    refine ho φ Hf0 H0 ρ σ Hf1 H1 _ _ (S.gr g1) h2 fun v2 Hf2 H2 g2 r2 => ?_
    cases r1
    cases r2 with
    | @dct a _ vs _ q l r =>
      have D := dget_rd (k := .inr z) (rd_mono g2.s q)
      rw [valV_kz] at D
      refine ⟨a, _, rfl, D, ?_⟩
      rw [dget_has z ks vs l]
      exact k _ Hf2 H2 (g1.trans g2) (.bl _)
  · cases h3
theorem ft_din (hu : X.A.units + 64 < cLine) (hi : FE X O i F) (ho : FE X O o G) (hm : behindInMarks .In o = false := by with_unfolding_all rfl) : FT X O (.Compare i [.In] [o] pos) (FL.tB blD (e2 (dinD false) F G)) := fun φ Hf0 H0 ρ σ Hf H b Q S hF k => by
  obtain ⟨d, hd', hc⟩ := tB_some hF
  obtain ⟨x, y, h1, h2, h3⟩ := e2_some hd'
  unfold dinD at h3
  split at h3
  · rename_i _ _ ks xs z
    cases h3
    cases hc
    refine toT (pt_cmp (pc_din (by omega) peW peW) hm) ?_
    refine hi φ Hf0 H0 ρ σ Hf H _ _ S h1 fun v1 Hf1 H1 g1 r1 => ?_
    refine ho φ Hf0 H0 ρ σ Hf1 H1 _ _ (S.gr g1) h2 fun v2 Hf2 H2 g2 r2 => ?_
    cases r1
    cases r2 with
    | @dct a _ vs _ q l r =>
      have D := dget_rd (k := .inr z) (rd_mono g2.s q)
      rw [valV_kz] at D
      refine ⟨a, _, rfl, D, _, rfl, ?_⟩
      rw [dget_has z ks vs l]
      exact k Hf2 H2 (g1.trans g2)
  · cases h3
end
/-! ### new dicts -/
def FD (X : Cx) (O : List Nat) (e : Expr) (F : Env → Option D) : Prop :=
  ∀ (φ : Nat → Option Addr) (Hf0 H0 : Hp) (ρ : Env) (σ : L2.St) (Hf H : Hp) (d : D) (Q : VK), SR X.K φ Hf0 H0 O ρ σ Hf H → F ρ = some d →
    (∀ a ks xs vs Hf' H', d = .dct ks xs → Gr Hf H Hf' H' → H a = none → Hf' a = none → H' a = some (.dK (kz ks vs)) → ks.length = vs.length → RpAll X.K φ Hf' xs vs → Q (.ref a) H') → wE X e σ H Q
def dcL (g : D → Env → Option Env) (T : Env → Option Bool) (Kf E : Env → Option D) (ρ : Env) : List D → List Str → List D → Option (List Str × List D)
  | [], ks, xs => some (ks, xs)
  | d :: ds, ks, xs => match g d ρ with
    | none => none
    | some ρ1 => match T ρ1 with
      | none => none
      | some false => dcL g T Kf E ρ ds ks xs
      | some true => match Kf ρ1 with
        | some (.str k) => (match E ρ1 with
          | some y => if ks.length < 1000 then dcL g T Kf E ρ ds (dputK ks k) (dputX k y ks xs) else none
          | none => none)
        | _ => none
def eDc (vs : List Nat) (Fi : Env → Option (List D)) (g : D → Env → Option Env) (T : Env → Option Bool) (Kf E : Env → Option D) : Env → Option D := fun ρ => match Fi ρ with
  | some ds => if ds.length < 1000000 then (match dcL g T Kf E (wipeE ρ vs) ds [] [] with | some (ks, xs) => some (.dct ks xs) | none => none) else none
  | none => none
section
variable {X : Cx} {O O2 : List Nat} {tg iter kx elt : Expr} {scope : Scope} {own : List (Str × Nat)} {pos : Pos}
theorem dc_go0 {wi : TI} {tt : TT} {g : D → Env → Option Env} {T : Env → Option Bool} {Kf E : Env → Option D} {tgs vs : List Nat} {ds : List D}
    (hw : ∀ (σ : L2.St) (H : Hp) (R : It → Hp → Prop), wI X tg iter σ H R → wi σ H R)
    (hg : ∀ s H C cl fp, FG (X.blk s H scope (compEnvC scope cl C X.env) fp) O O2 tgs tg g) (htg : ∀ i ∈ tgs, i ∈ vs)
    (ht : ∀ (φ : Nat → Option Addr) (Hf0 H0 : Hp) (ρ : Env) (σ : L2.St) (Hf H : Hp) (b : Bool) (Q : Bool → Hp → Prop), SR X.K φ Hf0 H0 O2 ρ σ Hf H → T ρ = some b → (∀ Hf' H', Gr Hf H Hf' H' → Q b H') → tt σ H Q)
    (hk : ∀ s H C cl fp, FE (X.blk s H scope (compEnvC scope cl C X.env) fp) O2 kx Kf) (he : ∀ s H C cl fp, FE (X.blk s H scope (compEnvC scope cl C X.env) fp) O2 elt E)
    {φ : Nat → Option Addr} {Hf0 H0 : Hp} {ρ : Env} {σ : L2.St} {Hf H : Hp} {d : D} {Q : VK} (S : SR X.K φ Hf0 H0 O ρ σ Hf H) {kso : List Str} {xso : List D} (hys : dcL g T Kf E (wipeE ρ vs) ds [] [] = some (kso, xso)) (hd : d = .dct kso xso)
    (hi : ∀ R : It → Hp → Prop, (∀ J Hf' H', Gr Hf H Hf' H' → ItB X.K φ Hf' H' ds J → R J H') → wI X tg iter σ H R)
    (k : ∀ a ks xs us Hf' H', d = .dct ks xs → Gr Hf H Hf' H' → H a = none → Hf' a = none → H' a = some (.dK (kz ks us)) → ks.length = us.length → RpAll X.K φ Hf' xs us → Q (.ref a) H') : tDc wi (uG X scope tg) tt (uE X scope kx) (uE X scope elt) vs σ H Q := by
  subst hd
  refine hw σ H _ (hi _ fun J Hf1 H1 g1 itb => ?_)
  intro Dn hDn
  refine ⟨fun i m H2 => m = ds.length - i ∧ i ≤ ds.length ∧ ∃ Hf2 ks xs us, Gr Hf1 H1 Hf2 H2 ∧ Hf2 Dn = none ∧ H2 Dn = some (.dK (kz ks us)) ∧ ks.length = us.length ∧ RpAll X.K φ Hf2 xs us ∧ dcL g T Kf E (wipeE ρ vs) (ds.drop i) ks xs = some (kso, xso),
    ⟨ds.length, by simp, Nat.zero_le _, Hf1, [], [], [], .own g1.s hDn, g1.s.free hDn, upd_same, rfl, .nil, by simpa using hys⟩, ?_⟩
  rintro i m H2 ⟨rfl, hil, Hf2, ks, xs, us, g2, hf2, hh2, hl2, r2, hrest⟩
  by_cases hlt : i < ds.length
  · right
    have hget : ds[i]? = some ds[i] := List.getElem?_eq_getElem hlt
    obtain ⟨hgo, hyld⟩ := (itb i Hf2 H2 g2).2 _ hget
    refine ⟨hgo, fun H' => ∃ Hf3 ks' xs' us', Gr Hf1 H1 Hf3 H' ∧ Hf3 Dn = none ∧ H' Dn = some (.dK (kz ks' us')) ∧ ks'.length = us'.length ∧ RpAll X.K φ Hf3 xs' us' ∧ dcL g T Kf E (wipeE ρ vs) (ds.drop (i + 1)) ks' xs' = some (kso, xso),
      fun H' ⟨Hf3, ks', xs', us', a1, a2, a3, a4, a5, a6⟩ => ⟨ds.length - (i + 1), by omega, rfl, hlt, Hf3, ks', xs', us', a1, a2, a3, a4, a5, a6⟩, fun x H3 hy => ?_⟩
    obtain ⟨Hf3, g3, r3⟩ := hyld x H3 hy
    have g13 := g2.trans g3
    have S3 := ((S.gr g1).gr g13).wipe vs
    rw [List.drop_eq_getElem_cons hlt] at hrest
    unfold dcL at hrest
    split at hrest
    · cases hrest
    · rename_i ρ2 hρ2
      intro s0 h0 C0 cl0 fp0
      refine hg s0 h0 C0 cl0 fp0 φ Hf0 H0 _ _ Hf3 H3 _ x ρ2 _ S3 r3 hρ2 fun σ2 S4 w4 => ⟨(w4 vs htg).trans wipe_wipe, ?_⟩
      split at hrest
      · cases hrest
      · rename_i hT
        refine ht φ Hf0 H0 ρ2 σ2 Hf3 H3 false _ S4 hT fun Hf4 H4 g4 => ?_
        refine iteF ⟨Hf4, ks, xs, us, g13.trans g4, ?_, ?_, hl2, (r2.mono g3.f).mono g4.f, hrest⟩
        · exact (g3.trans g4).n _ _ hh2 hf2
        · exact (g3.trans g4).h _ _ hh2
      · rename_i hT
        split at hrest
        · rename_i z hz
          split at hrest
          · rename_i y hy2
            split at hrest
            · rename_i hsm
              refine ht φ Hf0 H0 ρ2 σ2 Hf3 H3 true _ S4 hT fun Hf4 H4 g4 => iteT ?_
              intro s1 h1 C1 cl1 fp1
              refine hk s1 h1 C1 cl1 fp1 φ Hf0 H0 ρ2 σ2 Hf4 H4 _ _ (S4.gr g4) hz fun v1 Hf5 H5 g5 r5 => ?_
              intro s2 h2 C2 cl2 fp2
              refine he s2 h2 C2 cl2 fp2 φ Hf0 H0 ρ2 σ2 Hf5 H5 y _ ((S4.gr g4).gr g5) hy2 fun v Hf6 H6 g6 r6 => ?_
              have g36 := g3.trans (g4.trans (g5.trans g6))
              have hh6 := g36.h _ _ hh2
              have hf6 := g36.n _ _ hh2 hf2
              cases r5
              refine ⟨kz ks us, .inr z, rfl, hh6, by rw [List.length_zip, List.length_map, sizeLine_eq]; omega, Hf6, dputK ks z, dputX z y ks xs, dputX z v ks us, ?_, hf6, ?_, dput_len z v hl2, (r2.mono g36.f).dputX r6, hrest⟩
              · have gg := g2.trans g36
                refine ⟨gg.f, fun b o e => ?_, fun b o e => ?_, gg.n⟩
                · rw [upd_ne (ne_of_none e hDn)]; exact gg.h _ _ e
                · rw [upd_ne (ne_of_none e hf6)]; exact gg.s _ _ e
              · rw [upd_same, putK_kz z v hl2]
            · cases hrest
          · cases hrest
        · cases hrest
  · left
    have hie : i = ds.length := by omega
    refine ⟨(itb i Hf2 H2 g2).1 (by omega), ?_⟩
    subst hie
    rw [List.drop_length] at hrest
    cases hrest
    exact k Dn _ _ us Hf2 H2 rfl (g1.trans g2) (g1.h.free hDn) hf2 hh2 hl2 r2
theorem dc_go {wi : TI} {tt : TT} {Fi : Env → Option (List D)} {g : D → Env → Option Env} {T : Env → Option Bool} {Kf E : Env → Option D} {tgs vs : List Nat}
    (hw : ∀ (σ : L2.St) (H : Hp) (R : It → Hp → Prop), wI X tg iter σ H R → wi σ H R)
    (hi : FIB X O tg iter Fi) (hg : ∀ s H C cl fp, FG (X.blk s H scope (compEnvC scope cl C X.env) fp) O O2 tgs tg g) (htg : ∀ i ∈ tgs, i ∈ vs)
    (ht : ∀ (φ : Nat → Option Addr) (Hf0 H0 : Hp) (ρ : Env) (σ : L2.St) (Hf H : Hp) (b : Bool) (Q : Bool → Hp → Prop), SR X.K φ Hf0 H0 O2 ρ σ Hf H → T ρ = some b → (∀ Hf' H', Gr Hf H Hf' H' → Q b H') → tt σ H Q)
    (hk : ∀ s H C cl fp, FE (X.blk s H scope (compEnvC scope cl C X.env) fp) O2 kx Kf) (he : ∀ s H C cl fp, FE (X.blk s H scope (compEnvC scope cl C X.env) fp) O2 elt E)
    {φ : Nat → Option Addr} {Hf0 H0 : Hp} {ρ : Env} {σ : L2.St} {Hf H : Hp} {d : D} {Q : VK} (S : SR X.K φ Hf0 H0 O ρ σ Hf H) (hF : eDc vs Fi g T Kf E ρ = some d)
    (k : ∀ a ks xs us Hf' H', d = .dct ks xs → Gr Hf H Hf' H' → H a = none → Hf' a = none → H' a = some (.dK (kz ks us)) → ks.length = us.length → RpAll X.K φ Hf' xs us → Q (.ref a) H') : tDc wi (uG X scope tg) tt (uE X scope kx) (uE X scope elt) vs σ H Q := by
  unfold eDc at hF
  split at hF
  · rename_i ds hds
    split at hF
    · split at hF
      · rename_i kso xso hys
        exact dc_go0 hw hg htg ht hk he S hys (Option.some.inj hF).symm (fun R h => hi φ Hf0 H0 ρ σ Hf H ds R S hds h) k
      · cases hF
    · cases hF
  · cases hF
theorem fd_dc {Fi : Env → Option (List D)} {g : D → Env → Option Env} {Kf E : Env → Option D} {tgs : List Nat} (hc : X.calm = true) (hN : X.N.Nodup) (ok : BlkOk X.N X.env.scope scope own)
    (hi : FIB X O tg iter Fi) (hg : ∀ s H C cl fp, FG (X.blk s H scope (compEnvC scope cl C X.env) fp) O O2 tgs tg g) (hk : ∀ s H C cl fp, FE (X.blk s H scope (compEnvC scope cl C X.env) fp) O2 kx Kf) (he : ∀ s H C cl fp, FE (X.blk s H scope (compEnvC scope cl C X.env) fp) O2 elt E)
    (htg : (tgs.all fun i => (own.map (·.2)).contains i) = true) (hs : ∀ x, foldedSetIterable iter X.env x = pure x := by intro _; rfl) : FD X O (.DictComp kx elt [⟨tg, iter, [], 0⟩] scope pos) (eDc (own.map (·.2)) Fi g tYesE Kf E) := by
  intro φ Hf0 H0 ρ σ Hf H d Q S hF k
  refine toE (pe_dc (wi := wI X tg iter) (g := uG X scope tg) (tt := tYes) (tk := uE X scope kx) (tv := uE X scope elt) hc hN piW ok (fun s H C cl fp => ⟨fun pins s' σ H' v u Q I r h => (h s H C cl fp).h pins s' u I r⟩) (fun _ _ _ _ _ => pts_nil) (fun s H C cl fp => ⟨fun pins s' σ H' Q I h => (h s H C cl fp).h pins s' I⟩) (fun s H C cl fp => ⟨fun pins s' σ H' Q I h => (h s H C cl fp).h pins s' I⟩) hs) ?_
  exact dc_go (fun _ _ _ h => h) hi hg (fun i hi => by simpa using (List.all_eq_true.mp htg) i hi) (fun φ Hf0 H0 ρ σ Hf H b Q S h k => by cases h; exact k Hf H (.refl S.sub)) hk he S hF k
end
section
variable {X : Cx} {O : List Nat} {e : Expr} {F : Env → Option D} {pos : Pos}
theorem fe_of_fd (h : FD X O e F) : FE X O e F := fun φ Hf0 H0 ρ σ Hf H d Q S hF k => h φ Hf0 H0 ρ σ Hf H d Q S hF fun a ks xs vs Hf' H' hd g h1 h2 h3 hl r => by
  subst hd
  have sf : Same Hf' (upd Hf' a (.dK (kz ks vs))) := same_upd h2
  refine k (.ref a) (upd Hf' a (.dK (kz ks vs))) H' ⟨g.f.trans sf, g.h, fun b u q => ?_, fun b u q1 q2 => ?_⟩ (.dct (.inl upd_same) hl (r.mono sf))
  · by_cases hb : b = a
    · subst hb; rw [upd_same] at q; cases q; exact h3
    · rw [upd_ne hb] at q; exact g.s _ _ q
  · rw [upd_ne (ne_of_none q1 h1)]; exact g.n b u q1 q2
theorem fd_empty : FD X O (.Dict [] [] pos) (eC (.dct [] [])) := fun φ Hf0 H0 ρ σ Hf H d Q S hF k => by
  cases hF
  refine toE pe_dnewK fun p hp => ?_
  exact k p [] [] [] Hf (upd H p (.dK [])) rfl ⟨Same.refl _, same_upd hp, S.sub.trans (same_upd hp), fun _ _ _ z => z⟩ hp (S.sub.free hp) upd_same rfl .nil
def mDct (F : Env → Option D) : Env → List Ob → Option (D × List Ob) := fun ρ S => match F ρ with
  | some (.dct ks xs) => some (.obj S.length, S ++ [⟨.dic, "", ks, xs⟩])
  | _ => none
theorem me_dict (h : FD X O e F) : ME X O e (mDct F) := fun φ B Bf ρ S σ Hf H d S' Q M hF q => by
  unfold mDct at hF
  split at hF
  · rename_i ks xs hd
    cases hF
    refine h φ _ _ ρ σ Hf H _ _ M.sr hd fun a ks' xs' vs Hf1 H1 hl g n1 n2 hs hln r => ?_
    cases hl
    have M1 := M.gr g
    have hB : B a = none := by
      cases hq : B a with
      | none => rfl
      | some u => rw [M.fb _ _ hq] at n1; cases n1
    have new : ∀ i, φ i ≠ some a := fun i hi => by
      by_cases hl : i < S.length
      · obtain ⟨_, z, _⟩ := M.cl.get ⟨i, hl, hi⟩
        rw [n1] at z; cases z
      · rw [M.cl.out i (by omega)] at hi; cases hi
    have hown : ∀ i d, ρ[i]? = some (some d) → i ∈ O → σ[i]? ≠ some (some (.ref a)) := fun i d hd hi z => by
      obtain ⟨b, xs', vs', q1, q2, q3, _⟩ := M.own i d hd hi
      rw [z] at q2
      cases q2
      rw [n1] at q3; cases q3
    obtain ⟨ex, M2⟩ := M1.add (o := ⟨.dic, "", ks, xs⟩) (x := a) ⟨vs, r, hln, hs⟩ n2 hB new hown
    exact q _ (.ref a) Hf1 H1 ex g.f M2 (.obj (by unfold nphi; rw [if_pos rfl]))
  · cases hF
def qSnapD (F : Env → Option D) : Env → List Ob → Option (D × List Ob) := fun ρ S => match F (ρ.map (shw S)) with | some (.dct ks xs) => if noInss xs = true then some (.dct ks xs, S) else none | _ => none
end
end FL
namespace FL
variable [HW]
open PySem PySem.Spec L2

/-! ### tests, calls and loops over what changes objects -/
section
variable {X : Cx} {O O' O1 : List Nat} {e a b tg iter : Expr} {es rest : List Expr} {T : Env → Option Bool} {p pos : Pos} {M1 M2 : Env → List Ob → Option (D × List Ob)} {T1 T2 : Env → List Ob → Option (Bool × List Ob)} {A1 : Env → List Ob → Option (List D × List Ob)} {x : Str} {n j k : Nat}
def qTp (T : Env → Option Bool) : Env → List Ob → Option (Bool × List Ob) := fun ρ S => match T ρ with | some b => some (b, S) | none => none
theorem mt_pure (h : FT X O e T) : MT X O e (qTp T) := fun φ B Bf ρ S σ Hf H d S' Q M hF k => by
  unfold qTp at hF
  split at hF
  · rename_i b' hb
    cases hF
    exact h φ _ _ ρ σ Hf H d _ M.sr hb fun Hf1 H1 g => k φ Hf1 H1 (.refl φ) g.f (M.gr g)
  · cases hF
def qBl (M1 : Env → List Ob → Option (D × List Ob)) : Env → List Ob → Option (Bool × List Ob) := fun ρ S => match M1 ρ S with | some (.bl b, S') => some (b, S') | _ => none
theorem mt_val (h : ME X O e M1) (he : ∀ whole, isTrue e X.env whole = (do let v ← whole; standAt e.pos; holding [v] (truthy v)) := by intro _; rfl) : MT X O e (qBl M1) := fun φ B Bf ρ S σ Hf H c S' Q M hF k => by
  unfold qBl at hF
  split at hF
  · rename_i b' S1 hb
    cases hF
    refine toT (pt_truth peW he) ?_
    refine h φ B Bf ρ S σ Hf H _ _ _ M hb fun φ1 v Hf1 H1 e1 s1 M1 r1 => ⟨_, ?_, k φ1 Hf1 H1 e1 s1 M1⟩
    cases r1
    rfl
  · cases hF
def qNot (T1 : Env → List Ob → Option (Bool × List Ob)) : Env → List Ob → Option (Bool × List Ob) := fun ρ S => match T1 ρ S with | some (b, S') => some (!b, S') | none => none
theorem mt_not (h : MT X O e T1) : MT X O (.UnaryOp .Not e pos) (qNot T1) := fun φ B Bf ρ S σ Hf H c S' Q M hF k => by
  unfold qNot at hF
  split at hF
  · rename_i b' S1 hb
    cases hF
    exact toT (pt_not ptW) (h φ B Bf ρ S σ Hf H _ _ _ M hb fun φ1 Hf1 H1 e1 s1 M1 => k φ1 Hf1 H1 e1 s1 M1)
  · cases hF
def MW (X : Cx) (O : List Nat) (e : Expr) (F : Env → List Ob → Option (Bool × List Ob)) : Prop :=
  ∃ t : TT, PW X e t ∧ ∀ (φ : Nat → Option Addr) (B Bf : Hp) (ρ : Env) (S : List Ob) (σ : L2.St) (Hf H : Hp) (b : Bool) (S' : List Ob) (Q : Bool → Hp → Prop), MSR X.K φ B Bf O ρ S σ Hf H → F ρ S = some (b, S') →
    (∀ φ' Hf' H', Ext φ φ' → Same Hf Hf' → MSR X.K φ' B Bf O ρ S' σ Hf' H' → Q b H') → t σ H Q
def qAnd (T1 T2 : Env → List Ob → Option (Bool × List Ob)) : Env → List Ob → Option (Bool × List Ob) := fun ρ S => match T1 ρ S with | some (true, S') => T2 ρ S' | some (false, S') => some (false, S') | none => none
def qOr (T1 T2 : Env → List Ob → Option (Bool × List Ob)) : Env → List Ob → Option (Bool × List Ob) := fun ρ S => match T1 ρ S with | some (false, S') => T2 ρ S' | some (true, S') => some (true, S') | none => none
/-! a def that changes nothing, called with what changes objects -/
def pMir (m : List D → Option D) : List D → List Ob → Option (D × List Ob) := fun ds S => match m ds with | some d => some (d, S) | none => none
theorem me_callK {m : List D → Option D} (c : CalK X.prog X.w X.K X.mg X.base j x false n m) (hr : Room k X.A) (hk : j ≤ k) (hg : Gl X x) (ha : MA X O (e :: es) A1) (hdb : (x == ("__debug__" : Str)) = false := by decide +kernel) (he : starEach (e :: es) X.env = (false, eval e X.env) :: starEach es X.env := by rfl)
    (hpl : (backTo pos (starEach es X.env)).any (·.1) = false := by rfl) : ME X O (.Call (.Name x p) (e :: es) [] pos) (mCall n (pMir m) A1) := by
  obtain ⟨f, fd, ps, F, hm, hkp, hb⟩ := c.ok
  intro φ B Bf ρ S σ Hf H d S' Q M hF q
  unfold mCall at hF
  split at hF
  · rename_i ds S1 h1
    split at hF
    · rename_i hl
      unfold pMir at hF
      split at hF
      · rename_i d' h2
        cases hF
        refine toE (pe_call F (hr.mono hk) hg hm hkp hb .nil pass0 paW hdb he hpl) ?_
        refine ha φ B Bf ρ S σ Hf H ds _ _ M h1 fun φ1 vs Hf1 H1 e1 s1 M1 r1 => ?_
        exact ⟨φ1, Hf1, ds, d, M1.sub, by rw [List.append_nil]; exact r1, hl, h2, fun v Hf2 H2 g2 r2 => q φ1 v Hf2 H2 e1 (s1.trans g2.f) (M1.gr g2) r2⟩
      · cases hF
    · cases hF
  · cases hF
/-! what is walked -/
def MI (X : Cx) (O : List Nat) (tg iter : Expr) (F : Env → List Ob → Option (List D × List Ob)) : Prop :=
  ∀ (φ : Nat → Option Addr) (B Bf : Hp) (ρ : Env) (S : List Ob) (σ : L2.St) (Hf H : Hp) (ds : List D) (S' : List Ob) (R : It → Hp → Prop), MSR X.K φ B Bf O ρ S σ Hf H → F ρ S = some (ds, S') →
    (∀ φ' J Hf' H', Ext φ φ' → Same Hf Hf' → MSR X.K φ' B Bf O ρ S' σ Hf' H' → ItD X.K φ' Hf' ds J → R J H') → wI X tg iter σ H R
def jPure (Fi : Env → Option (List D)) : Env → List Ob → Option (List D × List Ob) := fun ρ S => match Fi ρ with | some ds => some (ds, S) | none => none
theorem mi_pure {Fi : Env → Option (List D)} (h : FI X O tg iter Fi) : MI X O tg iter (jPure Fi) := fun φ B Bf ρ S σ Hf H ds S' R M hF q => by
  unfold jPure at hF
  split at hF
  · rename_i ds' hd
    cases hF
    exact h φ _ _ ρ σ Hf H ds _ M.sr hd fun J Hf1 H1 g i => q φ J Hf1 H1 (.refl φ) g.f (M.gr g) i
  · cases hF
def jSeq (p : D → Bool) (M1 : Env → List Ob → Option (D × List Ob)) : Env → List Ob → Option (List D × List Ob) := fun ρ S => match M1 ρ S with | some (d, S') => if p d = true then (match seqD d with | some ds => some (ds, S') | none => none) else none | none => none
def mForM (Fi : Env → List Ob → Option (List D × List Ob)) (g : D → Env → Option Env) (G : Env → List Ob → Option MOut) : Env → List Ob → Option MOut := fun ρ S => match Fi ρ S with | some (ds, S1) => mLoop g G ds ρ S1 | none => none
theorem ms_forM {tgs : List Nat} {body : List Stmt} {Fi : Env → List Ob → Option (List D × List Ob)} {g : D → Env → Option Env} {G : Env → List Ob → Option MOut} (hp : PassesOwn (model X.prog X.w) X.A X.env X.xe) (hc : X.calm = true) (hi : MI X O tg iter Fi) (hg : FG X O O1 tgs tg g) (hb : MSs X O1 O body G)
    (hs : ∀ x, foldedSetIterable iter X.env x = pure x := by intro _; rfl) : MS X O O (.For tg iter body [] pos) (mForM Fi g G) := fun φ B Bf ρ S σ Hf H out Dn M hF P => by
  unfold mForM at hF
  split at hF
  · rename_i ds S0 hds
    refine toS (ps_for hp hc piW pgW pssW hs) ?_
    refine hi φ B Bf ρ S σ Hf H ds S0 _ M hds fun φ1 J Hf1 H1 e1 s1 M1 itd => ?_
    refine ⟨fun i m σ2 H2 => m = ds.length - i ∧ i ≤ ds.length ∧ ∃ φ2 ρ2 S2 Hf2, Ext φ1 φ2 ∧ Same Hf1 Hf2 ∧ MSR X.K φ2 B Bf O ρ2 S2 σ2 Hf2 H2 ∧ mLoop g G (ds.drop i) ρ2 S2 = some out, ⟨ds.length, by simp, Nat.zero_le _, φ1, ρ, S0, Hf1, .refl φ1, Same.refl _, M1, by simpa using hF⟩, ?_⟩
    rintro i m σ2 H2 ⟨rfl, hil, φ2, ρ2, S2, Hf2, e2, s2, M2, hl⟩
    by_cases hlt : i < ds.length
    · right
      have hget : ds[i]? = some ds[i] := List.getElem?_eq_getElem hlt
      obtain ⟨hgo, hyld⟩ := (itd i Hf2 H2 s2 M2.sub).2 _ hget
      rw [List.drop_eq_getElem_cons hlt] at hl
      unfold mLoop at hl
      split at hl
      · cases hl
      · rename_i ρ3 hρ3
        refine ⟨hgo, fun σ' H' => ∃ φ' ρ' S' Hf', Ext φ1 φ' ∧ Same Hf1 Hf' ∧ MSR X.K φ' B Bf O ρ' S' σ' Hf' H' ∧ mLoop g G (ds.drop (i + 1)) ρ' S' = some out, fun σ' H' ⟨φ', ρ', S', Hf', a0, a1, a2, a3⟩ => ⟨ds.length - (i + 1), by omega, rfl, hlt, φ', ρ', S', Hf', a0, a1, a2, a3⟩, fun x H3 hy => ?_⟩
        obtain ⟨Hf3, g3, r3⟩ := hyld x H3 hy
        have s3 := s2.trans g3.f
        have M3 := M2.gr g3
        refine hg φ2 _ _ ρ2 σ2 Hf3 H3 _ x ρ3 _ M3.sr (r3.ext e2) hρ3 fun σ4 S4 _ => ?_
        have M4 := M3.step S4
        split at hl
        · rename_i ρ4 S5 h4
          exact hb φ2 B Bf ρ3 S2 σ4 Hf3 H3 _ _ M4 h4 fun φ' σ' Hf' H' e' s' M' => ⟨φ', ρ4, S5, Hf', e2.trans e', s3.trans s', M', hl⟩
        · rename_i d S5 h4
          cases hl
          exact hb φ2 B Bf ρ3 S2 σ4 Hf3 H3 _ _ M4 h4 fun φ' v Hf' H' e' s' D' r' => P φ' v Hf' H' (e1.trans (e2.trans e')) (s1.trans (s3.trans s')) D' r'
        · cases hl
    · left
      have hie : i = ds.length := by omega
      subst hie
      rw [List.drop_length] at hl
      cases hl
      exact ⟨(itd _ Hf2 H2 s2 M2.sub).1 (Nat.le_refl _), P φ2 σ2 Hf2 H2 (e1.trans e2) (s1.trans s2) M2⟩
  · cases hF
end
section
variable {X : Cx} {O : List Nat} {e o : Expr} {es : List Expr} {c m x f : Str} {p pos apos pos' : Pos} {Fo : Env → Option D} {A1 : Env → List Ob → Option (List D × List Ob)} {M1 : Env → List Ob → Option (D × List Ob)} {k j n i : Nat} {fs : List Str} {mi : List D → Option (List D)} {mir : List D → List Ob → Option (D × List Ob)}
end
/-! a list of our own becomes a list that changes -/
section
variable {X : Cx} {O O1 : List Nat} {st : Stmt} {G : Env → List Ob → Option MOut}
def mProm (i : Nat) (G : Env → List Ob → Option MOut) : Env → List Ob → Option MOut := fun ρ S => match G ρ S with
  | some (.nx ρ1 S1) => (match ρ1[i]? with | some (some (.lst xs)) => some (.nx (ρ1.set i (some (.obj S1.length))) (S1 ++ [⟨.lst, "", [], xs⟩])) | _ => none)
  | _ => none
def mEx (M1 : Env → List Ob → Option (D × List Ob)) : Env → List Ob → Option MOut := fun ρ S => match M1 ρ S with | some (_, S') => some (.nx ρ S') | none => none
end
end FL
namespace FL
variable [HW]
open PySem PySem.Spec L2

/-! ### steps of mirrors over objects -/
section
variable {A B : Env → Option Out} {T : Env → Option Bool} {F Fo Fi : Env → Option D} {G A1 B1 : Env → List Ob → Option MOut} {F1 : Env → List Ob → Option (D × List Ob)} {T1 : Env → List Ob → Option (Bool × List Ob)} {ρ ρ' : Env} {S S1 S2 : List Ob} {d y : D} {i t : Nat} {o : Option MOut} {vs : List Nat} {b : Bool}
theorem w_pure (h : A ρ = some (.nx ρ')) (k : G ρ' S = o) : mSeq (mPure A) G ρ S = o := by
  unfold mSeq mPure
  rw [h]
  exact k
theorem w_set (h : F ρ = some d) (k : G (ρ.set i (some d)) S = o) : mSeq (mPure (sSet i F)) G ρ S = o := by
  refine w_pure ?_ k
  unfold sSet
  rw [h]
theorem w_oset (h : F1 ρ S = some (d, S1)) (k : G (ρ.set i (some d)) S1 = o) : mSeq (mSet i F1) G ρ S = o := by
  unfold mSeq mSet
  rw [h]
  exact k
theorem w_fg (k : G (wipeE ρ vs) S = o) : mForget vs G ρ S = o := k
theorem w_as (k : mSeq A1 (mSeq B1 G) ρ S = o) : mSeq (mSeq A1 B1) G ρ S = o := by
  rw [← k]
  show (match mSeq A1 B1 ρ S with | some (.nx ρ' S') => G ρ' S' | o => o) = (match A1 ρ S with | some (.nx ρ' S') => mSeq B1 G ρ' S' | o => o)
  unfold mSeq
  cases A1 ρ S with
  | none => rfl
  | some q => cases q <;> rfl
theorem w_nil (k : G ρ S = o) : mSeq mNil G ρ S = o := k
theorem w_if (h : T1 ρ S = some (b, S1)) (k1 : b = true → mSeq A1 G ρ S1 = o) (k2 : b = false → mSeq B1 G ρ S1 = o) : mSeq (mIf T1 A1 B1) G ρ S = o := by
  have e : mIf T1 A1 B1 ρ S = if b = true then A1 ρ S1 else B1 ρ S1 := by
    unfold mIf
    rw [h]
    cases b <;> rfl
  show (match mIf T1 A1 B1 ρ S with | some (.nx ρ' S') => G ρ' S' | o => o) = o
  rw [e]
  cases b
  · exact k2 rfl
  · exact k1 rfl
theorem w_t (h : T1 ρ S = some (true, S1)) (k : mSeq A1 G ρ S1 = o) : mSeq (mIf T1 A1 B1) G ρ S = o := w_if h (fun _ => k) fun z => (nomatch z)
theorem w_f (h : T1 ρ S = some (false, S1)) (k : mSeq B1 G ρ S1 = o) : mSeq (mIf T1 A1 B1) G ρ S = o := w_if h (fun z => (nomatch z)) fun _ => k
theorem w_for {Fj : Env → List Ob → Option (List D × List Ob)} {g : D → Env → Option Env} {ds : List D} (h : Fj ρ S = some (ds, S1)) (k : mLoop g B1 ds ρ S1 = some (.nx ρ' S2)) (k2 : G ρ' S2 = o) : mSeq (mForM Fj g B1) G ρ S = o := by
  unfold mSeq mForM
  rw [h]
  dsimp only
  rw [k]
  exact k2
theorem w_retP (h : F ρ = some d) : mSeq (mPure (sRet F)) G ρ S = some (.rt d S) := by
  unfold mSeq mPure sRet
  rw [h]
theorem w_ret (h : F1 ρ S = some (d, S1)) : mSeq (mRet F1) G ρ S = some (.rt d S1) := by
  unfold mSeq mRet
  rw [h]
theorem w_putI {ob : Ob} {z : Int} {j : Nat} (h1 : F1 ρ S = some (d, S1)) (h2 : Fi ρ = some (.int z)) (h3 : ρ[i]? = some (some (.obj t))) (h4 : S1[t]? = some ob) (h5 : ob.k = .lst) (h6 : ixN ob.xs.length z = some j) (k : G ρ (setL S1 t (ob.xs.set j d)) = o) : mSeq (mPutI i Fi F1) G ρ S = o := by
  unfold mSeq mPutI
  rw [h1]
  dsimp only
  rw [h2]
  dsimp only
  rw [h3]
  dsimp only
  rw [h4]
  dsimp only
  rw [if_pos h5, h6]
  exact k
theorem w_ex (h : F1 ρ S = some (d, S1)) (k : G ρ S1 = o) : mSeq (mEx F1) G ρ S = o := by
  unfold mSeq mEx
  rw [h]
  exact k
theorem w_mut {A2 : Env → List Ob → Option (List D × List Ob)} {f : List D → List D → Option (List D)} {ob ob1 : Ob} {ds ys : List D} (h1 : ρ[i]? = some (some (.obj t))) (h2 : S[t]? = some ob) (h3 : ob.k = .lst) (h4 : A2 ρ S = some (ds, S1)) (h5 : S1[t]? = some ob1) (h6 : ob1.k = .lst) (h7 : f ob1.xs ds = some ys) (k : G ρ (setL S1 t ys) = o) : mSeq (mMut i f A2) G ρ S = o := by
  unfold mSeq mMut
  rw [h1]
  dsimp only
  rw [h2]
  dsimp only
  rw [if_pos h3, h4]
  dsimp only
  rw [h5]
  dsimp only
  rw [if_pos h6, h7]
  exact k
theorem qPure_val (h : F ρ = some d) : qPure F ρ S = some (d, S) := by
  unfold qPure
  rw [h]
theorem qTp_val (h : T ρ = some b) : qTp T ρ S = some (b, S) := by
  unfold qTp
  rw [h]
theorem qNot_val (h : T1 ρ S = some (b, S1)) : qNot T1 ρ S = some (!b, S1) := by
  unfold qNot
  rw [h]
theorem qBl_val (h : F1 ρ S = some (.bl b, S1)) : qBl F1 ρ S = some (b, S1) := by
  unfold qBl
  rw [h]
theorem qCons_val {A2 : Env → List Ob → Option (List D × List Ob)} {ds : List D} (h1 : F1 ρ S = some (d, S1)) (h2 : A2 ρ S1 = some (ds, S2)) : qCons F1 A2 ρ S = some (d :: ds, S2) := by
  unfold qCons
  rw [h1]
  dsimp only
  rw [h2]
theorem mCall_val {A2 : Env → List Ob → Option (List D × List Ob)} {ds : List D} {n : Nat} {mir : List D → List Ob → Option (D × List Ob)} (h1 : A2 ρ S = some (ds, S1)) (h2 : ds.length = n) (h3 : mir ds S1 = some (d, S2)) : mCall n mir A2 ρ S = some (d, S2) := by
  unfold mCall
  rw [h1]
  dsimp only
  rw [if_pos h2]
  exact h3
theorem mMe_val {A2 : Env → List Ob → Option (List D × List Ob)} {ds : List D} {n : Nat} {c m : Str} {ob : Ob} {mir : List D → List Ob → Option (D × List Ob)} (h0 : Fo ρ = some (.obj t)) (h1 : S[t]? = some ob) (h2 : ob.k = .ins ∧ ob.c = c ∧ ob.fs.contains m = false) (h3 : A2 ρ S = some (ds, S1)) (h4 : ds.length + 1 = n) (h5 : mir (.obj t :: ds) S1 = some (d, S2)) : mMe c m n mir Fo A2 ρ S = some (d, S2) := by
  unfold mMe
  rw [h0]
  dsimp only
  rw [h1]
  dsimp only
  rw [if_pos h2, h3]
  dsimp only
  rw [if_pos h4]
  exact h5
theorem pMir_val {m : List D → Option D} {ds : List D} (h : m ds = some d) : pMir m ds S = some (d, S) := by
  unfold pMir
  rw [h]
theorem runM_rt {N n : Nat} {ds : List D} (h : G (envOf N n ds) S = some (.rt d S1)) : runM N n G ds S = some (d, S1) := by
  unfold runM
  rw [h]
theorem runM_nx {N n : Nat} {ds : List D} (h : G (envOf N n ds) S = some (.nx ρ' S1)) : runM N n G ds S = some (.non, S1) := by
  unfold runM
  rw [h]
end
theorem mloop_nx {g : D → Env → Option Env} {G : Env → List Ob → Option MOut} {I : Nat → Env → List Ob → Prop} : ∀ (ds : List D) (j : Nat) (ρ : Env) (S : List Ob), (∀ (i : Nat) (ρ : Env) (S : List Ob) (d : D), I (j + i) ρ S → ds[i]? = some d → ∃ ρ1 ρ2 S2, g d ρ = some ρ1 ∧ G ρ1 S = some (.nx ρ2 S2) ∧ I (j + i + 1) ρ2 S2) → I j ρ S →
    ∃ ρ' S', mLoop g G ds ρ S = some (.nx ρ' S') ∧ I (j + ds.length) ρ' S'
  | [], j, ρ, S, _, h => ⟨ρ, S, rfl, h⟩
  | d :: ds, j, ρ, S, st, h => by
    obtain ⟨ρ1, ρ2, S2, h1, h2, h3⟩ := st 0 ρ S d h rfl
    obtain ⟨ρ', S', k1, k2⟩ := mloop_nx ds (j + 1) ρ2 S2 (fun i ρ S d q e => by
      have := st (i + 1) ρ S d (by rw [show j + (i + 1) = j + 1 + i by omega]; exact q) e
      rw [show j + (i + 1) + 1 = j + 1 + i + 1 by omega] at this
      exact this) h3
    refine ⟨ρ', S', ?_, by rw [List.length_cons, show j + (ds.length + 1) = j + 1 + ds.length by omega]; exact k2⟩
    unfold mLoop
    rw [h1]
    dsimp only
    rw [h2]
    exact k1
theorem jPure_val {Fi : Env → Option (List D)} {ρ : Env} {S : List Ob} {ds : List D} (h : Fi ρ = some ds) : jPure Fi ρ S = some (ds, S) := by
  unfold jPure
  rw [h]
theorem rng1_v {F : Env → Option D} {ρ : Env} {k : Nat} (h : F ρ = some (.int (k : Int))) (hk : k < 1000000) : iRng1 (aCons F aNil) ρ = some (rngD 0 k) := by
  unfold iRng1
  rw [show aCons F aNil ρ = some [.int (k : Int)] from by unfold aCons aNil; rw [h]]
  dsimp only
  rw [if_pos ⟨by omega, by omega⟩, Int.toNat_natCast]
/-! dicts -/
theorem dhas_mem {k : Str} : ∀ {ks : List Str}, dhas k ks = true ↔ k ∈ ks
  | [] => by simp [dhas]
  | g :: gs => by
    unfold dhas
    by_cases h : g = k
    · simp [h]
    · rw [if_neg h, dhas_mem]; simp [Ne.symm h]
end FL
namespace FL
variable [HW]
open PySem PySem.Spec L2

/-! ### a look that goes through objects -/
def shd (S : List Ob) : Nat → D → D
  | n + 1, .obj i => (match S[i]? with
    | some ⟨.ins, c, fs, xs⟩ => .ins c fs (xs.map (shd S n))
    | some ⟨.lst, _, _, xs⟩ => .lst (xs.map (shd S n))
    | some ⟨.dic, _, fs, xs⟩ => .dct fs (xs.map (shd S n))
    | some ⟨.dkt, _, _, xs⟩ => .dkt false (xs.take (xs.length / 2)) ((xs.drop (xs.length / 2)).map (shd S n))
    | none => .obj i)
  | _, d => d
def shE (S : List Ob) : Option D → Option D | some d => some (shd S 6 d) | none => none
section
variable {K : PySem.W.Frag} {φ : Nat → Option Addr} {B Bf : Hp} {O : List Nat} {ρ : Env} {S : List Ob} {σ : L2.St} {Hf H Hf' H' : Hp}
theorem OAt.dic {o : Ob} {x : Option HO} (h : OAt K φ Hf o x) (hk : o.k = .dic) : ∃ vs, x = Option.some (.dK (kz o.fs vs)) ∧ o.fs.length = vs.length ∧ RpAll K φ Hf o.xs vs := by
  obtain ⟨vs, r, q⟩ := h
  rw [hk] at q
  exact ⟨vs, q.2, q.1, r⟩
theorem MSR.s1 (M : MSR K φ B Bf O ρ S σ Hf H) : Same Hf (fzc φ S Hf H) := fun a o e => by
  by_cases h : ObAt φ S a
  · obtain ⟨_, _, e2, _⟩ := M.cl.get h
    rw [e2] at e; cases e
  · rw [fzc_no h]; exact e
mutual
theorem Rp.shd (M : MSR K φ B Bf O ρ S σ Hf H) : ∀ (n : Nat) {d : D} {v : V}, Rp K φ Hf d v → Rp K φ (fzc φ S Hf H) (FL.shd S n d) v
  | 0, d, v, r => by unfold FL.shd; exact r.mono M.s1
  | n + 1, d, v, r => by
    cases r with
    | @obj i a h =>
      unfold FL.shd
      split
      · rename_i c fs xs ho
        obtain ⟨a', q1, q2, q3⟩ := M.cl.at_ _ _ ho
        rw [h] at q1
        cases q1
        obtain ⟨dx, vs, z1, z2, z3⟩ := q3.ins rfl
        exact .ins ((fzc_at ⟨_, (List.getElem?_eq_some_iff.mp ho).1, h⟩).trans z1) z2 (RpAll.shd M n z3)
      · rename_i c fs xs ho
        obtain ⟨a', q1, q2, q3⟩ := M.cl.at_ _ _ ho
        rw [h] at q1
        cases q1
        obtain ⟨vs, z2, z1⟩ := q3.lst rfl
        exact .lst ((fzc_at ⟨_, (List.getElem?_eq_some_iff.mp ho).1, h⟩).trans z2) (RpAll.shd M n z1)
      · rename_i c fs xs ho
        obtain ⟨a', q1, q2, q3⟩ := M.cl.at_ _ _ ho
        rw [h] at q1
        cases q1
        obtain ⟨vs, z2, z3, z1⟩ := q3.dic rfl
        exact .dct (.inl ((fzc_at ⟨_, (List.getElem?_eq_some_iff.mp ho).1, h⟩).trans z2)) z3 (RpAll.shd M n z1)
      · rename_i c fs xs ho
        obtain ⟨a', q1, q2, q3⟩ := M.cl.at_ _ _ ho
        rw [h] at q1
        cases q1
        obtain ⟨vs, r, b, ks, ds, ns, as, ws, us, e1, e2, e3, e4, e5, e6, e7, e8, e9, e10⟩ := q3
        have e2 : xs = ks ++ ds := e2
        have hr : RpAll K φ Hf xs vs := r
        subst e2 e3
        have hl : (ks ++ ds).length / 2 = ks.length := by rw [List.length_append]; omega
        rw [hl, List.take_left, List.drop_left]
        obtain ⟨r1, r2⟩ := RpAll.split (by rw [List.length_map]; exact e5) hr
        exact .dkt (fz := false) (.inl ((fzc_at ⟨_, (List.getElem?_eq_some_iff.mp ho).1, h⟩).trans e1)) e6 e7 e8 (by rw [List.length_map]; exact e4) e9 e10 (r1.mono M.s1) (RpAll.shd M n r2)
      · exact .obj h
    | non => exact .non
    | bl b => exact .bl b
    | int i => exact .int i
    | str x => exact .str x
    | tup s r => exact (Rp.tup s r).mono M.s1
    | lst s r => exact (Rp.lst s r).mono M.s1
    | klst s r => exact (Rp.klst s r).mono M.s1
    | ins s l r => exact (Rp.ins s l r).mono M.s1
    | dct s l r => exact (Rp.dct s l r).mono M.s1
    | dkt s a b c d f g r t => exact (Rp.dkt s a b c d f g r t).mono M.s1
    | xtp s p r => exact (Rp.xtp s p r).mono M.s1
theorem RpAll.shd (M : MSR K φ B Bf O ρ S σ Hf H) : ∀ (n : Nat) {ds : List D} {vs : List V}, RpAll K φ Hf ds vs → RpAll K φ (fzc φ S Hf H) (ds.map (FL.shd S n)) vs
  | _, _, _, .nil => .nil
  | n, _, _, .cons r t => .cons (Rp.shd M n r) (RpAll.shd M n t)
end
theorem MSR.snapd (M : MSR K φ B Bf O ρ S σ Hf H) : SR K φ (fzc φ S Hf H) (bas φ S B (fzc φ S Hf H) H) O (ρ.map (shE S)) σ (fzc φ S Hf H) H := by
  have s1 := M.s1
  have s2 : Same (fzc φ S Hf H) H := fun a o e => by
    by_cases h : ObAt φ S a
    · rw [fzc_at h] at e; exact e
    · rw [fzc_no h] at e; exact M.sub _ _ e
  have get : ∀ i, (ρ.map (shE S))[i]? = (ρ[i]?).map (shE S) := fun i => List.getElem?_map
  have inv : ∀ (i : Nat) (d : D), (ρ[i]?).map (shE S) = some (some d) → ∃ d0 : D, ρ[i]? = some (some d0) ∧ shd S 6 d0 = d := fun i d e => by
    cases hq : ρ[i]? with
    | none => rw [hq] at e; cases e
    | some od =>
      cases od with
      | none => rw [hq] at e; cases e
      | some d0 => rw [hq] at e; exact ⟨d0, rfl, Option.some.inj (Option.some.inj e)⟩
  refine ⟨by rw [List.length_map]; exact M.sr.len, s2, Same.refl _, fun a o e => ?_, fun _ _ _ z => z, fun i d e n => ?_, fun i d e m => ?_, fun i j d e a h1 h2 m1 m2 hne q1 => ?_⟩
  · by_cases h : ObAt φ S a
    · rw [bas_at h] at e; exact e
    · rw [bas_no h] at e
      split at e
      · rename_i o' hb
        cases e
        exact M.fb _ _ hb
      · exact s2 _ _ e
  · rw [get] at e
    obtain ⟨d0, hq, rfl⟩ := inv i d e
    obtain ⟨v, e1, r⟩ := M.sr.val i d0 hq n
    exact ⟨v, e1, Rp.shd M 6 r⟩
  · rw [get] at e
    obtain ⟨d0, hq, rfl⟩ := inv i d e
    obtain ⟨a, xs, vs, q1, q2, q3, q4, q5, r⟩ := M.sr.own i d0 hq m
    subst q1
    have h : ¬ ObAt φ S a := fun h => by
      rw [bas_at h, q3] at q5; cases q5
    refine ⟨a, xs, vs, rfl, q2, q3, (fzc_no h).trans q4, ?_, r.mono s1⟩
    rw [bas_no h] at q5 ⊢
    split at q5
    · cases q5
    · exact (fzc_no h).trans q4
  · rw [get] at h1 h2
    obtain ⟨d1, k1, _⟩ := inv i d h1
    obtain ⟨d2, k2, _⟩ := inv j e h2
    exact M.sr.ne i j d1 d2 a k1 k2 m1 m2 hne q1
end
section
variable {X : Cx} {O : List Nat} {e c : Expr} {F : Env → Option D} {T : Env → Option Bool}
def qLk (F : Env → Option D) : Env → List Ob → Option (D × List Ob) := fun ρ S => match F (ρ.map (shE S)) with | some d => if noIns d = true then some (d, S) else none | none => none
def qTl (T : Env → Option Bool) : Env → List Ob → Option (Bool × List Ob) := fun ρ S => match T (ρ.map (shE S)) with | some b => some (b, S) | none => none
def qLkN (F : Env → Option D) : Env → List Ob → Option (D × List Ob) := fun ρ S => match F (ρ.map (shE S)) with | some (.lst xs) => if noInss xs = true then some (.lst xs, S) else none | _ => none
def qLkD (F : Env → Option D) : Env → List Ob → Option (D × List Ob) := fun ρ S => match F (ρ.map (shE S)) with | some (.dct ks xs) => if noInss xs = true then some (.dct ks xs, S) else none | _ => none
theorem cut_look {K : PySem.W.Frag} {φ : Nat → Option Addr} {B Bf : Hp} {ρ : Env} {S : List Ob} {σ : L2.St} {Hf H Hf1 H1 : Hp} (M : MSR K φ B Bf O ρ S σ Hf H) (g : Gr (fzc φ S Hf H) H Hf1 H1) : ∀ a o, Hf1 a = some o → ((∃ xs, o = .tup xs) ∨ ∃ q u, o = .frz q u) → ofc φ S Hf1 a = some o := fun b o e1 e2 => by
  by_cases hq : ObAt φ S b
  · obtain ⟨u, e3, _, n1, n2⟩ := M.cl.get hq
    have := g.f _ _ ((fzc_at hq).trans e3)
    rw [e1] at this
    cases this
    rcases e2 with ⟨xs, z⟩ | ⟨w, u, z⟩
    · exact absurd z (n1 xs)
    · exact absurd z (n2 w u)
  · rw [ofc_no hq]; exact e1
theorem me_look (h : FE X O e F) : ME X O e (qLk F) := fun φ B Bf ρ S σ Hf H d S' Q M hF k => by
  unfold qLk at hF
  split at hF
  · rename_i d' hd
    split at hF
    · rename_i hn
      cases hF
      refine h φ _ _ _ σ _ H d _ M.snapd hd fun v Hf1 H1 g r => ?_
      obtain ⟨M1, s1⟩ := M.back g
      exact k φ v _ H1 (.refl φ) s1 M1 (r.cut (cut_look M g) hn)
    · cases hF
  · cases hF
theorem mt_look (h : FT X O c T) : MT X O c (qTl T) := fun φ B Bf ρ S σ Hf H d S' Q M hF k => by
  unfold qTl at hF
  split at hF
  · rename_i b' hb
    cases hF
    refine h φ _ _ _ σ _ H d _ M.snapd hb fun Hf1 H1 g => ?_
    obtain ⟨M1, s1⟩ := M.back g
    exact k φ _ H1 (.refl φ) s1 M1
  · cases hF
theorem MSR.fix {K : PySem.W.Frag} {φ : Nat → Option Addr} {B Bf : Hp} {ρ : Env} {S : List Ob} {σ : L2.St} {Hf H Hf1 H1 : Hp} {a : Addr} {u : HO} (M : MSR K φ B Bf O ρ S σ Hf H) (M1 : MSR K φ B Bf O ρ S σ (ofc φ S Hf1) H1) (n1 : H a = none) (n2 : Hf1 a = none) (hs : H1 a = some u) :
    Same (ofc φ S Hf1) (upd (ofc φ S Hf1) a u) ∧ MSR K φ B Bf O ρ S σ (upd (ofc φ S Hf1) a u) H1 := by
  have hno : ¬ ObAt φ S a := fun z => by
    obtain ⟨_, e3, _⟩ := M.cl.get z
    rw [n1] at e3; cases e3
  have nf : ofc φ S Hf1 a = none := (ofc_no hno).trans n2
  have nB : B a = none := by
    cases hq : B a with
    | none => rfl
    | some u => rw [M.fb _ _ hq] at n1; cases n1
  have sm : Same (ofc φ S Hf1) (upd (ofc φ S Hf1) a u) := same_upd nf
  have D : MDone K φ B Bf S (upd (ofc φ S Hf1) a u) H1 := by
    refine ⟨fun b u z => ?_, ⟨fun i o z => ?_, M1.cl.inj, M1.cl.out⟩, M1.fb, fun b u z zf => ?_, M1.nb⟩
    · by_cases hb : b = a
      · subst hb; rw [upd_same] at z; cases z; exact hs
      · rw [upd_ne hb] at z; exact M1.sub _ _ z
    · obtain ⟨b, w1, w2, w3⟩ := M1.cl.at_ i o z
      refine ⟨b, w1, ?_, w3.mono (.refl φ) sm⟩
      have hb : b ≠ a := fun hb => hno ⟨i, (List.getElem?_eq_some_iff.mp z).1, by rw [← hb]; exact w1⟩
      rw [upd_ne hb]
      exact w2
    · rw [upd_ne (fun hb => by rw [hb, nB] at z; cases z)]
      exact M1.fn _ _ z zf
  refine ⟨sm, D.msr M1.sr.len (fun i d z n => ?_) (fun i d z m => ?_) M1.sr.ne⟩
  · obtain ⟨v, w1, w2⟩ := M1.sr.val i d z n
    exact ⟨v, w1, w2.mono sm⟩
  · obtain ⟨b, ys, ws, w1, w2, w3, w4, w5, w6, w7⟩ := M1.own i d z m
    obtain ⟨b', _, _, _, y2, y3, _⟩ := M.own i d z m
    rw [w2] at y2
    cases y2
    exact ⟨b, ys, ws, w1, w2, w3, by rw [upd_ne (fun hb => by rw [hb, n1] at y3; cases y3)]; exact w4, w5, w6, w7.mono sm⟩
theorem me_lookN (h : FN X O e F) : ME X O e (qLkN F) := fun φ B Bf ρ S σ Hf H d S' Q M hF q => by
  unfold qLkN at hF
  split at hF
  · rename_i xs hd
    split at hF
    · rename_i hn
      cases hF
      refine h φ _ _ _ σ _ H _ _ M.snapd hd fun a ys vs Hf1 H1 hl g n1 n2 hs r => ?_
      cases hl
      obtain ⟨M1, s1⟩ := M.back g
      have r' : RpAll X.K φ (ofc φ S Hf1) xs vs := RpAll.cut (cut_look M g) hn r
      obtain ⟨sm, M2⟩ := M.fix M1 n1 n2 hs
      exact q φ (.ref a) _ H1 (.refl φ) (s1.trans sm) M2 (.lst upd_same (r'.mono sm))
    · cases hF
  · cases hF
def qLkL (F : Env → Option D) : Env → List Ob → Option (D × List Ob) := fun ρ S => match F (ρ.map (shE S)) with | some (.lst xs) => if noInss xs = true then some (.obj S.length, S ++ [⟨.lst, "", [], xs⟩]) else none | _ => none
end
end FL
namespace FL
variable [HW]
open PySem PySem.Spec L2

/-! ### an object set anew, whole -/
section
variable {K : PySem.W.Frag} {φ : Nat → Option Addr} {B Bf : Hp} {O : List Nat} {ρ : Env} {S : List Ob} {σ : L2.St} {Hf H : Hp}
theorem MSR.setO {i : Nat} {o o' : Ob} {a : Addr} {u : HO} (M : MSR K φ B Bf O ρ S σ Hf H) (ho : S[i]? = some o) (hp : φ i = some a) (h : OAt K φ Hf o' (some u)) : MSR K φ B Bf O ρ (S.set i o') σ Hf (upd H a u) := by
  obtain ⟨a', q1, q3, q0⟩ := M.cl.at_ i o ho
  rw [hp] at q1
  cases q1
  have hi : i < S.length := (List.getElem?_eq_some_iff.mp ho).1
  have hat : ObAt φ S a := ⟨i, hi, hp⟩
  have len : (S.set i o').length = S.length := List.length_set
  have D : MDone K φ B Bf (S.set i o') Hf (upd H a u) := by
    refine ⟨fun b v e => ?_, ⟨fun j o1 e => ?_, M.cl.inj, fun j hj => M.cl.out j (by rw [len] at hj; exact hj)⟩, fun b v e => ?_, M.fn, fun b ⟨j, hj, e⟩ => M.nb b ⟨j, by rw [len] at hj; exact hj, e⟩⟩
    · have hb : b ≠ a := by rintro rfl; rw [q3] at e; cases e
      rw [upd_ne hb]; exact M.sub _ _ e
    · by_cases hji : j = i
      · subst hji
        rw [List.getElem?_set_self hi] at e
        cases e
        exact ⟨a, hp, q3, by rw [upd_same]; exact h⟩
      · rw [List.getElem?_set_ne (Ne.symm hji)] at e
        obtain ⟨b, p1, p2, p3⟩ := M.cl.at_ j o1 e
        refine ⟨b, p1, p2, ?_⟩
        have hb : b ≠ a := by rintro rfl; exact hji (M.cl.inj _ _ _ p1 hp)
        rw [upd_ne hb]; exact p3
    · have hb : b ≠ a := by rintro rfl; rw [M.nb _ hat] at e; cases e
      rw [upd_ne hb]; exact M.fb _ _ e
  refine D.msr M.sr.len M.sr.val (fun j d' q m => ?_) M.sr.ne
  obtain ⟨b, xs, us, p1, p2, p3, p4, p5, p6, r'⟩ := M.own j d' q m
  have hb : b ≠ a := fun z => p6 (z ▸ hat)
  exact ⟨b, xs, us, p1, p2, by rw [upd_ne hb]; exact p3, p4, p5, fun ⟨j, hj, e⟩ => p6 ⟨j, by rw [len] at hj; exact hj, e⟩, r'⟩
end
/-! an attribute, set anew or new -/
def putAK (fs : List Str) (f : Str) : List Str := if fs.contains f = true then fs else fs ++ [f]
def putAX {α : Type} (f : Str) (d : α) (fs : List Str) (xs : List α) : List α := if fs.contains f = true then stF f d fs xs else xs ++ [d]
theorem putF_fresh (f : Str) (v : V) : ∀ (fs : List Str) (ws : List V), fs.length = ws.length → fs.contains f = false → putF f v (fs.zip ws) = (fs ++ [f]).zip (ws ++ [v])
  | [], [], _, _ => rfl
  | [], _ :: _, h, _ => by simp at h
  | _ :: _, [], h, _ => by simp at h
  | g :: fs, w :: ws, hl, h => by
    have h1 : ¬ g = f := fun z => by subst z; simp at h
    have h2 : fs.contains f = false := by simp at h ⊢; exact h.2
    show (if g = f then (g, v) :: fs.zip ws else (g, w) :: putF f v (fs.zip ws)) = _
    rw [if_neg h1, putF_fresh f v fs ws (by simpa using hl) h2]
    rfl
theorem putF_A (f : Str) (v : V) {fs : List Str} {ws : List V} (hl : fs.length = ws.length) : putF f v (fs.zip ws) = (putAK fs f).zip (putAX f v fs ws) ∧ (putAK fs f).length = (putAX f v fs ws).length := by
  unfold putAK putAX
  by_cases h : fs.contains f = true
  · rw [if_pos h, if_pos h]
    exact ⟨putF_st f v fs ws hl h, by rw [stF_len]; exact hl⟩
  · rw [if_neg h, if_neg h]
    exact ⟨putF_fresh f v fs ws hl (by simpa using h), by simp [hl]⟩
def putA (S : List Ob) (i : Nat) (f : Str) (d : D) : List Ob := match S[i]? with | some o => S.set i ⟨o.k, o.c, putAK o.fs f, putAX f d o.fs o.xs⟩ | none => S
theorem RpAll.putAX {K : PySem.W.Frag} {φ : Nat → Option Addr} {H : Hp} {f : Str} {d : D} {v : V} (q : Rp K φ H d v) {fs : List Str} {xs : List D} {ws : List V} (r : RpAll K φ H xs ws) : RpAll K φ H (FL.putAX f d fs xs) (FL.putAX f v fs ws) := by
  unfold FL.putAX
  split
  · exact RpAll.stF q fs r
  · exact r.append (.one q)
section
variable {X : Cx} {O O1 O' : List Nat} {e o : Expr} {es : List Expr} {c m x f : Str} {p pos pos' apos : Pos} {Fo : Env → Option D} {A1 : Env → List Ob → Option (List D × List Ob)} {M1 M2 : Env → List Ob → Option (D × List Ob)} {k j n i : Nat} {mir : List D → List Ob → Option (D × List Ob)}
def mPutA (c f : Str) (Fo : Env → Option D) (M1 : Env → List Ob → Option (D × List Ob)) : Env → List Ob → Option MOut := fun ρ S => match M1 ρ S with
  | some (d, S1) => (match Fo ρ with
    | some (.obj i) => (match S1[i]? with | some o => if o.k = .ins ∧ o.c = c ∧ o.fs.length < 1000 then some (.nx ρ (putA S1 i f d)) else none | none => none)
    | _ => none)
  | none => none
theorem ms_putA (hc : Cls X.K (He.ga X.K c)) (hna : NoAttr X.K (He.ga X.K c) f) (h : ME X O e M1) (ho : FE X O o Fo) (hs : swapsWith e (some (.Attribute o f pos')) pos.line X.env = pure false := by rfl) :
    MS X O O (.Assign [.Attribute o f pos'] e pos) (mPutA c f Fo M1) := fun φ B Bf ρ S σ Hf H out Dn M hF P => by
  unfold mPutA at hF
  split at hF
  · rename_i d S1 hd
    split at hF
    · rename_i i h1
      split at hF
      · rename_i o' h2
        split at hF
        · rename_i h3
          obtain ⟨h0, rfl, h5⟩ := h3
          cases hF
          refine toS (ps_fld peW peW hs) ?_
          refine h φ B Bf ρ S σ Hf H d S1 _ M hd fun φ1 v Hf1 H1 e1 s1 M1 r1 => ?_
          refine ho φ1 _ _ ρ σ Hf1 H1 _ _ M1.sr h1 fun v2 Hf2 H2 g2 r2 => ?_
          have M2 := M1.gr g2
          cases r2 with
          | obj hi =>
            obtain ⟨a, q1, q3, q0⟩ := M2.cl.at_ _ _ h2
            rw [hi] at q1
            cases q1
            obtain ⟨dx, vs0, q2, q4, q5⟩ := q0.ins h0
            refine ⟨_, _, _, _, rfl, q2, hc, hna, by rw [List.length_zip]; omega, ?_⟩
            obtain ⟨w1, w2⟩ := putF_A f v q4
            have M3 := M2.setO (o' := ⟨o'.k, o'.c, putAK o'.fs f, putAX f d o'.fs o'.xs⟩) h2 hi (u := .ins (He.ga X.K o'.c) dx (putF f v (o'.fs.zip vs0))) (by
              rw [h0]
              exact .mk_ins (vs := putAX f v o'.fs vs0) (dx := dx) (by rw [w1]) w2 (q5.putAX (r1.mono g2.f)))
            have e3 : putA S1 i f d = S1.set i ⟨o'.k, o'.c, putAK o'.fs f, putAX f d o'.fs o'.xs⟩ := by unfold putA; rw [h2]
            rw [e3] at P
            exact P φ1 _ Hf2 _ e1 (s1.trans g2.f) M3
        · cases hF
      · cases hF
    · cases hF
  · cases hF
def mFld (c f : Str) (M1 : Env → List Ob → Option (D × List Ob)) : Env → List Ob → Option (D × List Ob) := fun ρ S => match M1 ρ S with
  | some (.obj i, S1) => (match S1[i]? with | some o => if o.k = .ins ∧ o.c = c then (match dget f o.fs o.xs with | some d => some (d, S1) | none => none) else none | none => none)
  | _ => none
theorem lookup_dget (f : Str) : ∀ (fs : List Str) (ws : List V), (fs.zip ws).lookup f = dget f fs ws
  | [], _ => by unfold dget; rfl
  | _ :: _, [] => by unfold dget; rfl
  | g :: fs, w :: ws => by
    show (match f == g with | true => some w | false => (fs.zip ws).lookup f) = _
    unfold dget
    by_cases e : g = f
    · subst e; simp
    · rw [if_neg e, show (f == g) = false from by simpa using Ne.symm e]
      exact lookup_dget f fs ws
theorem me_fld (hc : Cls X.K (He.ga X.K c)) (hna : NoAttr X.K (He.ga X.K c) f) (h : ME X O e M1) (hab : attributeBase e f X.env (eval e X.env) = eval e X.env := by rfl) : ME X O (.Attribute e f pos) (mFld c f M1) := fun φ B Bf ρ S σ Hf H d S' Q M hF q => by
  unfold mFld at hF
  split at hF
  · rename_i i S1 h1
    split at hF
    · rename_i o' h2
      split at hF
      · rename_i h3
        obtain ⟨h0, rfl⟩ := h3
        split at hF
        · rename_i d' h4
          cases hF
          refine toE (pe_fld peW hab) ?_
          refine h φ B Bf ρ S σ Hf H _ _ _ M h1 fun φ1 v Hf1 H1 e1 s1 M1 r1 => ?_
          cases r1 with
          | obj hi =>
            obtain ⟨a, q1, q3, q0⟩ := M1.cl.at_ _ _ h2
            rw [hi] at q1
            cases q1
            obtain ⟨dx, vs0, q2, q4, q5⟩ := q0.ins h0
            obtain ⟨v, w1, w2⟩ := (RpAll.dget f o'.fs q5).1 _ h4
            exact ⟨_, _, _, _, v, rfl, q2, hc, hna, by rw [lookup_dget]; exact w1, q φ1 v Hf1 H1 e1 s1 M1 w2⟩
        · cases hF
      · cases hF
    · cases hF
  · cases hF
/-! objects whose __init__ changes them -/
structure CalCM (P : Program) (w : World) (K : PySem.W.Frag) (mg : Str → Option Value) (base : Heap) (k : Nat) (c : Str) (n : Nat) (mir : List D → List Ob → Option (D × List Ob)) : Prop where
  ok : ∃ (f : Addr) (fd : FuncData) (ps : List Str), FnOk P w K mg base CX0 k f fd ps (spE K (n + 1) mir) ∧ Mk K (He.ga K c) f ∧ mg c = some (.ref (He.ga K c)) ∧ Binds K fd ps []
structure CalCD (P : Program) (w : World) (K : PySem.W.Frag) (mg : Str → Option Value) (base : Heap) (k : Nat) (c : Str) (n : Nat) (mir : List D → List Ob → Option (D × List Ob)) (df : List D) : Prop where
  ok : ∃ (f : Addr) (fd : FuncData) (ps : List Str) (ds : List Value) (dvs : List V), FnOk P w K mg base CX0 k f fd ps (spE K (n + 1) mir) ∧ Mk K (He.ga K c) f ∧ mg c = some (.ref (He.ga K c)) ∧ Binds K fd ps ds ∧ Vals dvs ds ∧ ∀ φ H, RpAll K φ H df dvs
theorem CalCM.d {P : Program} {w : World} {K : PySem.W.Frag} {mg : Str → Option Value} {base : Heap} (h : CalCM P w K mg base k c n mir) : CalCD P w K mg base k c n mir [] := by
  obtain ⟨f, fd, ps, a, b, c, d⟩ := h.ok
  exact ⟨f, fd, ps, [], [], a, b, c, d, .nil, fun _ _ => .nil⟩
def mNewM (c : Str) (n : Nat) (mir : List D → List Ob → Option (D × List Ob)) (df : List D) (A : Env → List Ob → Option (List D × List Ob)) : Env → List Ob → Option (D × List Ob) := fun ρ S => match A ρ S with
  | some (ds, S1) => if (ds ++ df).length = n then (match mir (.obj S1.length :: (ds ++ df)) (S1 ++ [⟨.ins, c, [], []⟩]) with | some (.non, S2) => some (.obj S1.length, S2) | _ => none) else none
  | none => none
theorem newM_go {K : PySem.W.Frag} {φ1 : Nat → Option Addr} {B Bf : Hp} {ρ : Env} {S1 S2 : List Ob} {σ : L2.St} {Hf1 H1 : Hp} {ds df : List D} {vs dvs : List V} {Q : VK} (M1 : MSR K φ1 B Bf O ρ S1 σ Hf1 H1) (r1 : RpAll K φ1 Hf1 ds vs) (rd : ∀ φ H, RpAll K φ H df dvs) (hl : (ds ++ df).length = n)
    (hm : mir (.obj S1.length :: (ds ++ df)) (S1 ++ [⟨.ins, c, [], []⟩]) = some (.non, S2)) (q : ∀ φ' v Hf' H', Ext φ1 φ' → Same Hf1 Hf' → MSR K φ' B Bf O ρ S2 σ Hf' H' → Rp K φ' Hf' (.obj S1.length) v → Q v H') :
    ∀ x dx, H1 x = none → H1 dx = none → dx ≠ x → spE K (n + 1) mir (.ref x :: (vs ++ dvs)) (upd (upd H1 dx (.own x)) x (.ins (He.ga K c) dx [])) (fun v H2 => v = .non ∧ Q (.ref x) H2) (fun _ _ _ => False) := by
  intro x dx hx hdx hne
  have hs1 : Same H1 (upd (upd H1 dx (.own x)) x (.ins (He.ga K c) dx [])) := (same_upd hdx).trans (same_upd (by rw [upd_ne (fun z => hne z.symm)]; exact hx))
  have M2 := M1.gr (Hf1 := Hf1) (H1 := upd (upd H1 dx (.own x)) x (.ins (He.ga K c) dx [])) ⟨Same.refl _, hs1, M1.sub.trans hs1, fun _ _ _ z => z⟩
  have hB : B x = none := by
    cases hq : B x with
    | none => rfl
    | some u => rw [M1.fb _ _ hq] at hx; cases hx
  have new : ∀ i, φ1 i ≠ some x := fun i hi => by
    by_cases hl : i < S1.length
    · obtain ⟨_, z, _⟩ := M1.cl.get ⟨i, hl, hi⟩
      rw [hx] at z; cases z
    · rw [M1.cl.out i (by omega)] at hi; cases hi
  have hown : ∀ i d, ρ[i]? = some (some d) → i ∈ O → σ[i]? ≠ some (some (.ref x)) := fun i d hd hi z => by
    obtain ⟨a, xs', vs', q1, q2, q3, _⟩ := M1.own i d hd hi
    rw [z] at q2
    cases q2
    rw [hx] at q3; cases q3
  obtain ⟨ex, M3⟩ := M2.add (o := ⟨.ins, c, [], []⟩) (x := x) (.mk_ins (vs := []) (dx := dx) (by rw [upd_same]; rfl) rfl .nil) (M1.sub.free hx) hB new hown
  have hobj : nphi φ1 S1.length x S1.length = some x := by unfold nphi; rw [if_pos rfl]
  refine M3.into (ds := .obj S1.length :: (ds ++ df)) (.cons (.obj hobj) ((RpAll.ext ex r1).append (rd _ _))) (by simp at hl ⊢; omega) hm fun φ3 v Hf3 H3 e3 s3 M4 r4 => ?_
  cases r4
  exact ⟨rfl, q φ3 (.ref x) Hf3 H3 (ex.trans e3) s3 M4 (.obj (e3 _ _ hobj))⟩
theorem me_newM {df : List D} (cc : CalCD X.prog X.w X.K X.mg X.base j c n mir df) (hr : Room k X.A) (hk : j + 1 ≤ k) (hg : Gl X c) (ha : MA X O (e :: es) A1) (hdb : (c == ("__debug__" : Str)) = false := by decide +kernel) (he : starEach (e :: es) X.env = (false, eval e X.env) :: starEach es X.env := by rfl)
    (hpl : (backTo pos (starEach es X.env)).any (·.1) = false := by rfl) : ME X O (.Call (.Name c p) (e :: es) [] pos) (mNewM c n mir df A1) := by
  obtain ⟨f, fd, ps, ds0, dvs, Fn, Mk, hm, hb, hv, rd⟩ := cc.ok
  intro φ B Bf ρ S σ Hf H d S' Q M hF q
  unfold mNewM at hF
  split at hF
  · rename_i ds S1 h1
    split at hF
    · rename_i hl
      split at hF
      · rename_i S2 h2
        cases hF
        refine toE (pe_make Mk Fn (hr.mono hk) hg hm hb hv pass0 paW hdb he hpl) ?_
        refine ha φ B Bf ρ S σ Hf H ds S1 _ M h1 fun φ1 vs Hf1 H1 e1 s1 M1 r1 => ?_
        exact newM_go M1 r1 rd hl h2 fun φ' v Hf' H' e2 s2 M2 r2 => q φ' v Hf' H' (e1.trans e2) (s1.trans s2) M2 r2
      · cases hF
    · cases hF
  · cases hF
theorem me_newM0 {df : List D} (cc : CalCD X.prog X.w X.K X.mg X.base j c n mir df) (hr : Room k X.A) (hk : j + 1 ≤ k) (hg : Gl X c) (hdb : (c == ("__debug__" : Str)) = false := by decide +kernel) : ME X O (.Call (.Name c p) [] [] pos) (mNewM c n mir df qNil) := by
  obtain ⟨f, fd, ps, ds0, dvs, Fn, Mk, hm, hb, hv, rd⟩ := cc.ok
  intro φ B Bf ρ S σ Hf H d S' Q M hF q
  unfold mNewM at hF
  split at hF
  · rename_i ds S1 h1
    cases h1
    split at hF
    · rename_i hl
      split at hF
      · rename_i S2 h2
        cases hF
        refine toE (pe_make0 Mk Fn (hr.mono hk) hg hm hb hv pass0 hdb) ?_
        show tMake _ _ _ _ L2.tNil σ H Q
        exact newM_go M .nil rd hl h2 q
      · cases hF
    · cases hF
  · cases hF
/-! a, (b, c) = e -/
def mAsg (g : D → Env → Option Env) (M1 : Env → List Ob → Option (D × List Ob)) : Env → List Ob → Option MOut := fun ρ S => match M1 ρ S with | some (d, S1) => (match g d ρ with | some ρ1 => some (.nx ρ1 S1) | none => none) | none => none
theorem ms_asg {tgs : List Nat} {tg : Expr} {g : D → Env → Option Env} (h : ME X O e M1) (hg : FG X O O1 tgs tg g) (hs : swapsWithSole [tg] e pos.line X.env = pure false := by rfl) (hw : swappedStores [tg] e X.env = pure none := by rfl) (h1 : (assignEach [tg] X.env).map (·.2) = [assign tg X.env] := by rfl) :
    MS X O O1 (.Assign [tg] e pos) (mAsg g M1) := fun φ B Bf ρ S σ Hf H out Dn M hF P => by
  unfold mAsg at hF
  split at hF
  · rename_i d S1 hd
    split at hF
    · rename_i ρ1 hρ
      cases hF
      refine toS (ps_asg peW pgW hs hw h1) ?_
      refine h φ B Bf ρ S σ Hf H d S1 _ M hd fun φ1 v Hf1 H1 e1 s1 M1 r1 => ?_
      exact hg φ1 _ _ ρ σ Hf1 H1 d v ρ1 _ M1.sr r1 hρ fun σ' S2 _ => P φ1 σ' Hf1 H1 e1 s1 (M1.step S2)
    · cases hF
  · cases hF
theorem ms_exM (h : ME X O e M1) (hs : swapsWith e none pos.line X.env = pure false := by rfl) : MS X O O (.Expr e pos) (mEx M1) := ms_expr (O' := []) h hs
end
end FL
/-! ### a def read off its class -/
namespace FL
variable [HW]
open PySem PySem.Spec L2
structure CFn (K : PySem.W.Frag) (C : Addr) (m : Str) (f : Addr) : Prop where
  rd : PySem.W.readsIn K C (.type "type") = true
  ga : PySem.W.specialIn K (.ref C) "__getattribute__" = some (some (.builtin "type.__getattribute__"))
  at_ : PySem.W.findCls K (.ref C) (.type "type") m = some (.val (.ref f))
  ty : PySem.W.typeIn K (.ref f) = some (.type "function")
  kp : PySem.W.keepIn K (.ref f) = true
def cfnB (K : PySem.W.Frag) (c m : Str) : Bool :=
  PySem.W.readsIn K (He.ga K c) (.type "type") && (He.eqO (PySem.W.specialIn K (.ref (He.ga K c)) "__getattribute__") (some (some (.builtin "type.__getattribute__"))) &&
    ((match PySem.W.findCls K (.ref (He.ga K c)) (.type "type") m with | some (.val (.ref f)) => decide (f = He.ma K (He.ga K c) m) | _ => false) &&
    (decide (PySem.W.typeIn K (.ref (He.ma K (He.ga K c) m)) = some (.type "function")) && PySem.W.keepIn K (.ref (He.ma K (He.ga K c) m)))))
theorem cfn_ok {K : PySem.W.Frag} {c m : Str} (h : cfnB K c m = true) : CFn K (He.ga K c) m (He.ma K (He.ga K c) m) := by
  unfold cfnB at h
  simp only [Bool.and_eq_true] at h
  obtain ⟨h1, h2, h3, h4, h5⟩ := h
  refine ⟨h1, He.eqO_ok h2, ?_, of_decide_eq_true h4, h5⟩
  split at h3
  · rename_i f e
    rw [e, of_decide_eq_true h3]
  · cases h3
section
variable {X : Cx} {O : List Nat} {e o : Expr} {es : List Expr} {c m x f : Str} {p pos apos : Pos} {C fa : Addr} {CX : CXT} {k j n : Nat} {fd : FuncData} {ps : List Str} {sp : Sp} {dvs : List V} {ds : List Value} {E : XK} {ta : TE} {t : TA} {A1 : Env → List Ob → Option (List D × List Ob)} {M1 : Env → List Ob → Option (D × List Ob)} {mir : List D → List Ob → Option (D × List Ob)}
def tCFn (C : Addr) (sp : Sp) (dvs : List V) (E : XK) (ta : TE) (t : TA) : TE := fun σ H Q => ta σ H fun x H1 => x = .ref C ∧ t σ H1 fun vs H2 => sp (vs ++ dvs) H2 Q E
theorem pe_cfn {pl : Sem Bool} (he : PE X o ta) (c : CFn X.K C m fa) (F : FnOk X.prog X.w X.K X.mg X.base CX k fa fd ps sp) (hr : Room k X.A) (hb : Binds X.K fd ps ds) (hd : Vals dvs ds) (hx : Passes CX X E) (ha : PA X (e :: es) t)
    (hst : starEach (e :: es) X.env = (false, eval e X.env) :: starEach es X.env := by rfl) (hpl : (backTo pos (starEach es X.env)).any (·.1) = false := by rfl)
    (ht : eval (.Call (.Attribute o m apos) (e :: es) [] pos) X.env = (do
      let ov ← eval o X.env
      standAt apos.atName
      let (f, first) ← holding [ov] (getMethod ov m pl)
      callWith pos f first (backTo pos (starEach (e :: es) X.env)) (backToKw pos (keywordEach [] X.env))) := by rfl) :
    PE X (.Call (.Attribute o m apos) (e :: es) [] pos) (tCFn C sp dvs E ta t) := by
  refine ⟨fun pins s σ H Q I h => ?_⟩
  refine PySem.W.methodCall_KW (pl := pl) (thn (he.run pins s σ H _ I h) fun u s1 ⟨x, H1, I1, rx, ex, q⟩ => ?_) ht
  subst ex
  obtain rfl : u = Value.ref C := rx
  refine PySem.W.method_cls I1.kIn c.ga (PySem.W.cls_value I1.kIn c.rd c.at_ rfl ?_)
  have I2 := I1.tok (s1.toks + 1)
  refine PySem.W.callWith_K (first := []) (h₀ := X.base) I.ok.mod.kin c.kp (thn (ha.run pos pins _ σ H1 _ I2 q) fun us s2 ⟨vs, H2, I3, r, q2⟩ => ⟨I3.kIn, ?_⟩) hst hpl
  exact run_fn (us := us) (vs := vs) F hr hb hd hx I3 r q2
structure CalCF (P : Program) (w : World) (K : PySem.W.Frag) (mg : Str → Option Value) (base : Heap) (k : Nat) (c m : Str) (n : Nat) (mir : List D → List Ob → Option (D × List Ob)) : Prop where
  ok : ∃ (f : Addr) (fd : FuncData) (ps : List Str), FnOk P w K mg base CX0 k f fd ps (spE K n mir) ∧ mg c = some (.ref (He.ga K c)) ∧ CFn K (He.ga K c) m f ∧ Binds K fd ps []
theorem me_cfn {pl : Sem Bool} (cm : CalCF X.prog X.w X.K X.mg X.base j c m n mir) (hr : Room k X.A) (hk : j ≤ k) (hg : Gl X c) (ha : MA X O (e :: es) A1) (hdb : (c == ("__debug__" : Str)) = false := by decide +kernel)
    (hst : starEach (e :: es) X.env = (false, eval e X.env) :: starEach es X.env := by rfl) (hpl : (backTo pos (starEach es X.env)).any (·.1) = false := by rfl)
    (ht : eval (.Call (.Attribute (.Name c p) m apos) (e :: es) [] pos) X.env = (do
      let ov ← eval (.Name c p) X.env
      standAt apos.atName
      let (f, first) ← holding [ov] (getMethod ov m pl)
      callWith pos f first (backTo pos (starEach (e :: es) X.env)) (backToKw pos (keywordEach [] X.env))) := by rfl) : ME X O (.Call (.Attribute (.Name c p) m apos) (e :: es) [] pos) (mCall n mir A1) := by
  obtain ⟨f, fd, ps, Fn, hmg, hc, hb⟩ := cm.ok
  intro φ B Bf ρ S σ Hf H d S' Q M hF q
  unfold mCall at hF
  split at hF
  · rename_i ds S1 h1
    split at hF
    · rename_i hl
      refine toE (pe_cfn (pl := pl) (pe_glob hg hmg (v := .ref (He.ga X.K c)) rfl hdb) hc Fn (hr.mono hk) hb .nil pass0 paW hst hpl ht) ?_
      refine ⟨rfl, ?_⟩
      refine ha φ B Bf ρ S σ Hf H ds S1 _ M h1 fun φ1 vs Hf1 H1 e1 s1 M1 r1 => ?_
      exact M1.into (by rw [List.append_nil]; exact r1) hl hF fun φ2 v Hf2 H2 e2 s2 M2 r2 => q φ2 v Hf2 H2 (e1.trans e2) (s1.trans s2) M2 r2
    · cases hF
  · cases hF
/-! ### properties -/
def pAd (K : PySem.W.Frag) (C : Addr) (f : Str) : Addr := match PySem.W.recIn K (He.ma K C f) "property" with
  | some (.ref g :: _) => g
  | _ => (match PySem.W.recIn K (He.ma K C f) "staticmethod" with
    | some (.ref g :: _) => g
    | _ => (match PySem.W.recIn K (He.ma K C f) "classmethod" with
      | some (.ref g :: _) => g
      | _ => 0))
def propB (K : PySem.W.Frag) (c f : Str) : Bool :=
  He.eqO (PySem.W.findIn K (.ref (He.ga K c)) f) (some (some (.ref (He.ma K (He.ga K c) f)))) && (He.eqO (PySem.W.specialIn K (.ref (He.ma K (He.ga K c) f)) "__get__") (some (some (.builtin "property.__get__"))) &&
    (decide (PySem.W.takesIn K (.ref (He.ma K (He.ga K c) f)) = some true) && (match PySem.W.recIn K (He.ma K (He.ga K c) f) "property" with | some (.ref g :: _) => decide (g = pAd K (He.ga K c) f) | _ => false)))
theorem prop_ok {K : PySem.W.Frag} {c f : Str} (h : propB K c f = true) : PropOf K (He.ga K c) f (He.ma K (He.ga K c) f) (pAd K (He.ga K c) f) := by
  unfold propB at h
  simp only [Bool.and_eq_true] at h
  obtain ⟨h1, h2, h3, h4⟩ := h
  refine ⟨He.eqO_ok h1, He.eqO_ok h2, of_decide_eq_true h3, ?_⟩
  split at h4
  · rename_i g rest e
    exact ⟨rest, by rw [e, of_decide_eq_true h4]⟩
  · cases h4
structure CalP (P : Program) (w : World) (K : PySem.W.Frag) (mg : Str → Option Value) (base : Heap) (k : Nat) (c f : Str) (fr : Bool) (m : List D → Option D) : Prop where
  ok : ∃ (p g : Addr) (fd : FuncData) (ps : List Str), FnOk P w K mg base CX0 k g fd ps (spF K fr 1 m) ∧ Cls K (He.ga K c) ∧ PropOf K (He.ga K c) f p g ∧ Binds K fd ps []
def eP (c : Str) (m : List D → Option D) (Fo : Env → Option D) : Env → Option D := fun ρ => match Fo ρ with
  | some (.ins c' fs xs) => if c' = c then m [.ins c' fs xs] else none
  | _ => none
theorem eP_some {Fo : Env → Option D} {mm : List D → Option D} {ρ : Env} {d : D} (h : eP c mm Fo ρ = some d) : ∃ fs xs, Fo ρ = some (.ins c fs xs) ∧ mm [.ins c fs xs] = some d := by
  unfold eP at h
  split at h
  · rename_i c' fs xs h1
    split at h
    · rename_i h2
      subst h2
      exact ⟨fs, xs, h1, h⟩
    · cases h
  · cases h
theorem fe_prop {mm : List D → Option D} {Fo : Env → Option D} (cp : CalP X.prog X.w X.K X.mg X.base j c f false mm) (hr : Room k X.A) (hk : j + 1 ≤ k) (ho : FE X O o Fo) (hab : attributeBase o f X.env (eval o X.env) = eval o X.env := by rfl) : FE X O (.Attribute o f pos) (eP c mm Fo) := by
  obtain ⟨p, g, fd, ps, Fn, hc, hp, hb⟩ := cp.ok
  intro φ Hf0 H0 ρ σ Hf H d Q S hF q
  obtain ⟨fs, xs, h1, h2⟩ := eP_some hF
  refine toE (pe_prop peW hc hp Fn (hr.mono hk) hb .nil pass0 hab) ?_
  refine ho φ Hf0 H0 ρ σ Hf H _ _ S h1 fun v Hf1 H1 g1 r1 => ?_
  cases r1 with
  | @ins a _ dx _ vs _ s l r =>
    refine ⟨a, _, _, rfl, g1.s _ _ s, φ, Hf1, [.ins c fs xs], d, g1.s, .cons (.ins s l r) .nil, rfl, h2, fun v2 Hf2 H2 g2 r2 => q v2 Hf2 H2 (g1.trans g2) r2⟩
end
end FL
namespace FL
variable [HW]
open PySem PySem.Spec L2

/-! ### the head's facts: getters of properties too -/
def fnAW (K : PySem.W.Frag) (a : Addr) : He.FnW := match K.lookup a with
  | some ⟨_, _, .func fd, _⟩ => some (fd.name, fd.qualname, fd.params, fd.body, fd.scope, fd.globals, fd.closure, fd.builtins)
  | _ => none
def okAt (K : PySem.W.Frag) (d : He.DefD) (a : Addr) : Bool := PySem.W.keepIn K (.ref a) && (match K.lookup a with
  | some ⟨_, _, .func fd, _⟩ => PySem.W.codeIn K fd.code d.qual && (He.dflB K fd.defaults (d.dvs K) && He.kwdB K fd.kwdefaults (d.kws K))
  | _ => false)
theorem funD_at {K : PySem.W.Frag} {d : He.DefD} {a : Addr} (e : fnAW K a = d.val) (c : okAt K d a = true) : ∃ fd, FunD K d.name d.qual d.params d.body d.scope (d.dvs K) (d.kws K) a fd := by
  obtain ⟨kp, c2⟩ := He.ba c
  unfold fnAW at e
  cases q : K.lookup a with
  | none =>
    rw [q] at c2
    cases c2
  | some o =>
    obtain ⟨oc, od, dt, osl⟩ := o
    rw [q] at c2 e
    cases dt with
    | func fd =>
      obtain ⟨m1, m2, m3, m4, m5, m6, m7, m8, m9, m10, m11, m12, m13, m14, m15⟩ := fd
      have e2 : (some (m1, m2, m3, m4, m5, m6, m7, m15) : He.FnW) = some (d.name, d.qual, d.params, .stmts d.body, d.scope, mainGlobals, [], builtinsNs) := e
      simp only [Option.some.injEq, Prod.mk.injEq] at e2
      obtain ⟨h1, h2, h3, h4, h5, h6, h7, h8⟩ := e2
      subst h1 h2 h3 h4 h5 h6 h7 h8
      have c3 : (PySem.W.codeIn K m13 d.qual && (He.dflB K m8 (d.dvs K) && He.kwdB K m9 (d.kws K))) = true := c2
      obtain ⟨k1, k2⟩ := He.ba c3
      obtain ⟨k3, k4⟩ := He.ba k2
      exact ⟨_, ⟨oc, od, m8, m9, m10, m11, m12, m13, m14, osl, rfl, q, k1, He.dflB_ok k3, He.kwdB_ok k4⟩, kp⟩
    | _ => cases c2
abbrev PrD : Type := Str × Str × He.DefD
def prA (K : PySem.W.Frag) (q : PrD) : Addr := pAd K (He.ga K q.1) q.2.1
abbrev AlP : Type := AlG × (Bool × List He.FnW)
def obsPr (ps : List PrD) (K : PySem.W.Frag) : Bool × List He.FnW := (ps.all fun q => okAt K q.2.2 (prA K q), ps.map fun q => fnAW K (prA K q))
def valPr (ps : List PrD) : Bool × List He.FnW := (true, ps.map fun q => q.2.2.val)
def asP (g : Addr → Option Obj) (n : Nat) : List Addr := PySem.cStatics :: He.asD g n
def obsPK (fa : List He.Fa) (fn : List He.DefD) (ex : PySem.W.Frag → Bool) (ts : List He.Tab) (ps : List PrD) (K : PySem.W.Frag) : AlP := (((He.obsD fa fn K, ex K), ts.map fun t => He.dicW K (t.1 K)), obsPr ps K)
def obsP (n : Nat) (fa : List He.Fa) (fn : List He.DefD) (ex : PySem.W.Frag → Bool) (ts : List He.Tab) (ps : List PrD) (g : Addr → Option Obj) : AlP := obsPK fa fn ex ts ps (He.frG g (asP g n))
def SaysP (fa : List He.Fa) (fn : List He.DefD) (ex : PySem.W.Frag → Bool) (ts : List He.Tab) (ps : List PrD) (w : World) (K : PySem.W.Frag) : Prop := SaysG fa fn ex ts w K ∧ obsPr ps K = valPr ps
def hookP (n : Nat) (fa : List He.Fa) (fn : List He.DefD) (ex : PySem.W.Frag → Bool) (ts : List He.Tab) (ps : List PrD) : PySem.W.Hook where
  α := AlP
  obs := fun s => obsP n fa fn ex ts ps s.heap.get?
  val := fun w => (((He.valD fn, true), ts.map fun t => some (He.keysIn w.params t.2)), valPr ps)
  says := fun w h => ∃ K : PySem.W.Frag, K.In h ∧ SaysP fa fn ex ts ps w K
  of := fun w _ e => ⟨_, He.frG_in, ⟨⟨congrArg (fun z : AlP => z.1.1.1) e, congrArg (fun z : AlP => z.1.1.2) e⟩, (congrArg (fun z : AlP => z.1.2) e : _ = ts.map fun t => some (He.keysIn w.params t.2))⟩, congrArg (fun z : AlP => z.2) e⟩
  keeps := fun _ _ _ ⟨K, hK, c⟩ k => ⟨K, PySem.W.Frag.In.keeps hK k, c⟩
theorem getter_of {fa : List He.Fa} {fn : List He.DefD} {ex : PySem.W.Frag → Bool} {ts : List He.Tab} {ps : List PrD} {w : World} {K : PySem.W.Frag} (c : SaysP fa fn ex ts ps w K) (i : Nat) {q : PrD} (h : ps[i]? = some q := by rfl) :
    ∃ fd, FunD K q.2.2.name q.2.2.qual q.2.2.params q.2.2.body q.2.2.scope (q.2.2.dvs K) (q.2.2.kws K) (prA K q) fd := by
  have c1 : (ps.all fun q => okAt K q.2.2 (prA K q)) = true := congrArg (fun z : Bool × List He.FnW => z.1) c.2
  have e : (ps.map fun q => fnAW K (prA K q)) = ps.map fun q => q.2.2.val := congrArg (fun z : Bool × List He.FnW => z.2) c.2
  have e2 : (ps.map fun q => fnAW K (prA K q))[i]? = (ps.map fun q => q.2.2.val)[i]? := by rw [e]
  rw [List.getElem?_map, List.getElem?_map, h] at e2
  exact funD_at (Option.some.inj e2) (List.all_eq_true.mp c1 q (List.mem_of_getElem? h))
/-! ### promises -/
section
variable {P : Program} {w : World} {K : PySem.W.Frag} {mg : Str → Option Value} {base : Heap} {k : Nat} {a : Addr} {ps N : List Str} {x q c m f : Str} {st : Stmt} {G : Env → List Ob → Option MOut} {Gp : Env → Option Out} {dvs : List V} {kws : List (Str × V)}
theorem calP_of {N' : Nat} (Dd : FnAt K f q st [] [] (pAd K (He.ga K c) f)) (hc : Cls K (He.ga K c)) (hp : propB K c f = true) (S : FnScope N ps (defScope st)) (hN : N' = N.length) (hn : 1 = ps.length)
    (hbind : ∀ (kV doc pm : Value) (an : Option Addr) (cdv ct : Value) (us : List Value), us.length = ps.length → bindArgs (PySem.W.fnOf f q (defArgs st) (defBody st) (defScope st) .none kV doc pm an cdv ct) ⟨us, []⟩ = pure (ps.zip us))
    {fr : Bool} (O' : List Nat)
    (hb : ∀ (cdv : Value) (A : Around) (outer : List PySem.Env) (s : Shared) (H : Hp) (E : XK), Room k (A.deeper (PyProof.Rows.envOfC q (defScope st) s.heap.objs.size (pAd K (He.ga K c) f) cdv)) →
      FSs (cxOf CX0 P w K mg base N q (defScope st) (pAd K (He.ga K c) f) cdv A outer s H E).nox fr [] [] O' (defBody st) Gp) : CalP P w K mg base (k + 1) c f fr (runD fr N' 1 Gp) := by
  obtain ⟨fd, F⟩ := Dd
  exact ⟨_, _, fd, ps, fnOk_by F S hN hn O' hb, hc, prop_ok hp, FunD.bindsN F hbind⟩
theorem calCM2_of {N' n : Nat} {df : List D} (n0 j : Nat) (Dd : FnAt K "__init__" q st dvs kws (He.fAd K (c, some "__init__"))) (hne : dvs ≠ []) (hm : Mk K (He.ga K c) (He.ma K (He.ga K c) "__init__")) (hg : mg c = some (.ref (He.ga K c))) (S : FnScope N ps (defScope st)) (hN : N' = N.length) (hn : n + 1 = ps.length)
    (hbind : ∀ (T : Addr) (kV doc pm : Value) (an : Option Addr) (cdv ct : Value) (us its : List Value), us.length = ps.length → its.length = dvs.length →
      ∃ k, bindArgs (PySem.W.fnOf "__init__" q (defArgs st) (defBody st) (defScope st) (.ref T) kV doc pm an cdv ct) ⟨us, []⟩ = seqItems? (.ref T) >>= k ∧ k (some its.toArray) = pure (ps.zip (us ++ its.drop dvs.length)))
    (hn0 : n0 + (dvs.length - j) = ps.length)
    (hbind2 : ∀ (T : Addr) (kV doc pm : Value) (an : Option Addr) (cdv ct : Value) (us its : List Value), us.length = n0 → its.length = dvs.length →
      ∃ k, bindArgs (PySem.W.fnOf "__init__" q (defArgs st) (defBody st) (defScope st) (.ref T) kV doc pm an cdv ct) ⟨us, []⟩ = seqItems? (.ref T) >>= k ∧ k (some its.toArray) = pure (ps.zip (us ++ its.drop j)))
    (hdf : ∀ φ H, RpAll K φ H df (dvs.drop j)) (O' : List Nat)
    (hb : ∀ (cdv : Value) (A : Around) (outer : List PySem.Env) (s : Shared) (H : Hp) (E : XK), Room k (A.deeper (PyProof.Rows.envOfC q (defScope st) s.heap.objs.size (He.fAd K (c, some "__init__")) cdv)) →
      MSs (cxOf CX0 P w K mg base N q (defScope st) (He.fAd K (c, some "__init__")) cdv A outer s H E).nox [] O' (defBody st) G) : CalCD P w K mg base (k + 1) c n (runM N' (n + 1) G) [] ∧ CalCD P w K mg base (k + 1) c n (runM N' (n + 1) G) df := by
  obtain ⟨fd, F⟩ := Dd
  have fo := fnOk_m F S hN hn O' hb
  obtain ⟨ds, r, b⟩ := FunD.binds1 (ps := ps) F ps.length dvs.length hne (by rw [Nat.sub_self]; rfl) hbind
  rw [List.drop_length] at r
  cases r
  obtain ⟨ds2, r2, b2⟩ := FunD.binds1 (ps := ps) F n0 j hne hn0 hbind2
  exact ⟨⟨_, fd, ps, [], [], fo, hm, hg, b, .nil, fun _ _ => .nil⟩, ⟨_, fd, ps, ds2, _, fo, hm, hg, b2, r2, hdf⟩⟩
theorem calCF_of {N' n : Nat} (Dd : FnAt K m q st [] kws (He.fAd K (c, some m))) (hg : mg c = some (.ref (He.ga K c))) (hc : cfnB K c m = true) (S : FnScope N ps (defScope st)) (hN : N' = N.length) (hn : n = ps.length)
    (hbind : ∀ (kV doc pm : Value) (an : Option Addr) (cdv ct : Value) (us : List Value), us.length = ps.length → bindArgs (PySem.W.fnOf m q (defArgs st) (defBody st) (defScope st) .none kV doc pm an cdv ct) ⟨us, []⟩ = pure (ps.zip us))
    (O' : List Nat)
    (hb : ∀ (cdv : Value) (A : Around) (outer : List PySem.Env) (s : Shared) (H : Hp) (E : XK), Room k (A.deeper (PyProof.Rows.envOfC q (defScope st) s.heap.objs.size (He.fAd K (c, some m)) cdv)) →
      MSs (cxOf CX0 P w K mg base N q (defScope st) (He.fAd K (c, some m)) cdv A outer s H E).nox [] O' (defBody st) G) : CalCF P w K mg base (k + 1) c m n (runM N' n G) := by
  obtain ⟨fd, F⟩ := Dd
  exact ⟨_, fd, ps, fnOk_m F S hN hn O' hb, hg, cfn_ok hc, FunD.bindsN F hbind⟩
end
end FL
/-! ### {**d, k: v} -/
namespace FL
variable [HW]
open PySem PySem.Spec
section
variable {prog : Program} {w : World} {K : Type} [DecidableEq K] {knd : KeyKind prog w K} {A : Around} {E : Value → Shared → Prop} {s : Shared}
theorem dput_pairs {d : Addr} {kvs : List (K × Value)} {k : K} {key v : Value} {Q : Unit → Shared → Prop} (hkey : knd.is k key = true) (hm : s.heap.DictOf knd d kvs)
    (hQ : ∀ h', h'.DictOf knd d (stored kvs k v) → Heap.SameBut d s.heap h' → Q () { s with heap := h' }) (hsz : kvs.length ≤ sizeLine) : wpAny (model prog w) A (dictPut d (knd.hash k) key v) Q E s := by
  obtain ⟨o, es, ep, ho, hc, hd, hk, hp, hn⟩ := hm
  have hes : es.size ≤ sizeLine := by
    have e1 := hp.length
    have e2 : es.toList.length = es.size := by simp
    omega
  have hidx : (es.findIdx? fun e => knd.is k e.key) = kvs.findIdx? fun kv => decide (kv.1 = k) := by
    rw [← hp.findIdx k]; obtain ⟨l⟩ := es; simp
  unfold dictPut
  refine wpAny_bind (wpAny_dictFind_of hkey ho hd hk ?_)
  cases hi : es.findIdx? fun e => knd.is k e.key with
  | some i =>
    refine wpAny_updateDict ho hd (hQ _ ⟨_, _, ep, Heap.get?_update_self _ ho (Obj.isFreed_of_dict (Obj.data_mapDict hd _)), hc.mapDict _, Obj.data_mapDict hd _, hk.modify _ _, ?_, ?_⟩ (Heap.SameBut.update ..))
    · rw [stored, if_pos (any_of_findIdx_some (hidx ▸ hi))]
      have hl : (es.toList.findIdx? fun e => knd.is k e.key) = some i := by rw [← hi]; obtain ⟨l⟩ := es; simp
      have := hp.modify hn hl v
      obtain ⟨l⟩ := es
      simpa using this
    · rw [stored, if_pos (any_of_findIdx_some (hidx ▸ hi)), keys_map_store]; exact hn
  | none =>
    have hnot : k ∉ kvs.map (·.1) := not_mem_of_findIdx_none (hidx ▸ hi)
    have hany : ¬ (kvs.any fun kv => decide (kv.1 = k)) = true := by
      rw [List.any_eq_true]; rintro ⟨kv, hkv, he⟩
      exact hnot (List.mem_map.mpr ⟨kv, hkv, of_decide_eq_true he⟩)
    refine wpAny_updateDictKeys (hz := hes) ho hd (hQ _ ⟨_, _, ep + 1, Heap.get?_update_self _ ho (Obj.isFreed_of_dict (Obj.data_mapDictKeys hd _)), hc.mapDictKeys _, Obj.data_mapDictKeys hd _, hk.push hkey _, ?_, ?_⟩ (Heap.SameBut.update ..))
    · rw [stored, if_neg hany]
      have := hp.append hkey (knd.hash k) v
      obtain ⟨l⟩ := es
      simpa using this
    · rw [stored, if_neg hany, List.map_append, List.nodup_append]
      refine ⟨hn, by simp, ?_⟩
      intro a ha b hb
      simp only [List.map_cons, List.map_nil, List.mem_singleton] at hb
      subst hb
      exact fun e => hnot (e ▸ ha)
theorem noref {knd : KeyKind prog w K} {k : K} {u : Value} (h : knd.is k u = true) : ∀ b, u ≠ .ref b := fun b e => by
  have := knd.byValue _ _ h
  rw [e] at this
  cases this
theorem merge_run {d a : Addr} {kvs more : List (K × Value)} {Q : Unit → Shared → Prop} (hda : d ≠ a) (hoS : (a == sysModules) = false) (hd : s.heap.DictOf knd d kvs) (ho : s.heap.DictOf knd a more)
    (hQ : ∀ h', h'.DictOf knd d (merged kvs more) → Heap.SameBut d s.heap h' → Q () { s with heap := h' }) (hsz : kvs.length + more.length ≤ sizeLine) :
    wpAny (model prog w) A (mergeMapping d (.ref a) false) Q E s := by
  obtain ⟨od, esd, epd, hod, hcd, hdd, hkd, hpd, hnd⟩ := id hd
  obtain ⟨oo, eso, epo, hoo, hco, hdo', hko, hpo, hno⟩ := id ho
  have hlen : more.length = eso.size := by rw [← hpo.length]; simp
  have loop : wpAny (model prog w) A (do
      let l ← dictEntries a
      let epoch ← dictEpoch a
      forIn (List.range l.size) PUnit.unit fun i (_ : PUnit) => (do
          let l' ← dictEntries a
          match l'[i]? with
            | some e => do
              holding [e.key, e.val] (dictPut d e.hash e.key e.val)
              let ep' ← dictEpoch a
              if (ep' != epoch) = true then do
                  (unsupported "dict.changed-during-merge" : Sem PUnit)
                  pure (ForInStep.yield PUnit.unit)
                else pure (ForInStep.yield PUnit.unit)
            | _ => do
              (unsupported "dict.changed-during-merge" : Sem PUnit)
              pure (ForInStep.yield PUnit.unit) : Sem (ForInStep PUnit))
      pure ()) Q E s := by
    refine wpAny_bind (wpAny_dictEntries hoo hdo' ?_)
    refine wpAny_bind (wpAny_dictEpoch hoo hdo' ?_)
    refine wpAny_bind ?_
    rw [List.range_eq_range']
    refine wpAny_forIn_list _
      (fun rest _ s' => ∃ h' i, s' = { s with heap := h' } ∧ rest = List.range' i (eso.size - i) ∧ i ≤ eso.size ∧ h'.DictOf knd d (merged kvs (more.take i)) ∧ h'.get? a = some oo ∧ Heap.SameBut d s.heap h')
      _ ?_ ?_ _ _ ⟨s.heap, 0, rfl, by simp, Nat.zero_le _, by simpa [merged] using hd, hoo, Heap.SameBut.refl _ _⟩
    · rintro x rest b s' ⟨h', i, rfl, hr, hi, hd', hoo', hs'⟩
      have hlt : i < eso.size := by
        rcases Nat.lt_or_ge i eso.size with h | h
        · exact h
        · rw [Nat.sub_eq_zero_of_le h] at hr; simp at hr
      obtain ⟨rfl, hrest⟩ : x = i ∧ rest = List.range' (i + 1) (eso.size - (i + 1)) := by
        have e : eso.size - i = (eso.size - (i + 1)) + 1 := by omega
        rw [e, List.range'_succ] at hr
        injection hr with h1 h2
        exact ⟨h1, h2⟩
      refine wpAny_bind (wpAny_dictEntries hoo' hdo' ?_)
      rw [Array.getElem?_eq_getElem hlt]
      obtain ⟨kv, hkv⟩ : ∃ kv, more[x]? = some kv := ⟨more[x]'(by rw [hlen]; exact hlt), List.getElem?_eq_getElem _⟩
      obtain ⟨k, v⟩ := kv
      obtain ⟨hkey, hval⟩ := hpo.get? (e := eso[x]) (by simp [hlt]) hkv
      obtain ⟨k', hkey', hhash⟩ := hko eso[x] (Array.getElem_mem hlt)
      obtain rfl : k' = k := knd.inj _ _ _ hkey' hkey
      show wpAny _ _ (holding [eso[x].key, eso[x].val] (dictPut d eso[x].hash eso[x].key eso[x].val) >>= _) _ _ _
      rw [hhash, hval]
      have hmx : (merged kvs (more.take x)).length ≤ sizeLine := by
        have e1 := merged_length_le kvs (more.take x)
        have e2 : (more.take x).length ≤ more.length := by rw [List.length_take]; omega
        omega
      refine wpAny_bind (wpAny_holding (dput_pairs (s := { s with heap := h' }) hkey hd' (fun h'' hd'' hs'' => ?_) hmx))
      have hoo'' : h''.get? a = some oo := (hs''.2 a (Ne.symm hda)).trans hoo'
      refine wpAny_bind (wpAny_dictEpoch hoo'' hdo' ?_)
      rw [if_neg (by simp)]
      exact wpAny_pure ⟨h'', x + 1, rfl, hrest, hlt, by rw [merged_take_succ kvs more x (k', v) hkv]; exact hd'', hoo'', hs'.trans hs''⟩
    · rintro b s' ⟨h', i, rfl, hr, hi, hd', hoo', hs'⟩
      have hin : i = eso.size := by
        rcases Nat.lt_or_ge i eso.size with h | h
        · have e : eso.size - i = (eso.size - (i + 1)) + 1 := by omega
          rw [e, List.range'_succ] at hr; exact nomatch hr
        · exact Nat.le_antisymm hi h
      refine wpAny_pure (hQ h' ?_ hs')
      rw [hin, ← hlen, List.take_length] at hd'; exact hd'
  unfold mergeMapping
  refine wpAny_bind (wpAny_isInstance ho.typeIs isSubtype_dict_dict ?_)
  rw [if_pos rfl]
  refine wpAny_bind (wpAny_specialOf ho.typeIs F.slot_dict_iter.lookup (wpAny_bind (wpAny_pure ?_)))
  simp only [beq_self_eq_true]
  rw [if_neg (by rw [hoS]; exact Bool.false_ne_true)]
  refine wpAny_bind (wpAny_dictEntries hod hdd ?_)
  split
  · refine wpAny_bind (wpAny_dictEntries hoo hdo' ?_)
    refine wpAny_bind ?_
    rw [← Array.forIn_toList]
    refine wpAny_forIn_list _ (fun rest _ s' => s' = s ∧ ∀ e ∈ rest, ∃ k, knd.is k e.key = true) _ ?_ ?_ _ _ ⟨rfl, fun e he => let ⟨k, h, _⟩ := hko e (by simpa using he); ⟨k, h⟩⟩
    · rintro e rest b s' ⟨rfl, hr⟩
      obtain ⟨k, hk⟩ := hr e (.head _)
      have := noref hk
      split
      · rename_i q hq
        exact absurd hq (this q)
      · exact wpAny_pure ⟨rfl, fun x hx => hr x (.tail _ hx)⟩
    · rintro b s' ⟨rfl, _⟩
      exact loop
  · exact loop
end
end FL
namespace FL
variable [HW]
open PySem PySem.Spec L2
def tStarD (to tk tv : TE) : TE := fun σ H Q => ∀ p, H p = none → to σ (upd H p (.dK [])) fun x H1 => ∃ a kvs, x = .ref a ∧ a ≠ p ∧ Rd H1 a (.dK kvs) ∧ kvs.length < 1000 ∧ H1 p = some (.dK []) ∧
  ∀ q, upd H1 p (.dK (mergeK [] kvs)) q = none → tPairs [(tk, tv)] σ (upd (upd H1 p (.dK (mergeK [] kvs))) q (.dK [])) fun ps H4 => ∃ key z, ps = [(kV key, z)] ∧ H4 q = some (.dK []) ∧ H4 p = some (.dK (mergeK [] kvs)) ∧
    Q (.ref p) (upd (upd H4 q (.dK [(key, z)])) p (.dK (putK (mergeK [] kvs) key z)))
section
variable {X : Cx} {o kx vx : Expr} {pos : Pos} {to tk tv : TE}
theorem pe_starD (ho : PE X o to) (hk : PE X kx tk) (hv : PE X vx tv) : PE X (.Dict [none, some kx] [o, vx] pos) (tStarD to tk tv) := by
  refine ⟨fun pins s σ H Q I h => ?_⟩
  rw [arm_eval_Dict]
  refine wpAny_bind (wpAny_standAt ?_)
  unfold dictDisplay
  simp only [evalEachOpt, evalEach, List.zip_cons_cons, List.map_cons, List.map_nil, List.zip_nil_right, List.forIn_cons, List.forIn_nil]
  refine wpAny_bind ?_
  refine wpAny_bind ?_
  show wpAny _ _ (Bind.bind (if ([] : List (Sem Value × Sem Value)).isEmpty = true then pure none else _) _) _ _ _
  refine wpAny_bind ?_
  refine wpAny_ite ?_
  rw [if_pos (by rfl)]
  refine wpAny_pure ?_
  dsimp only
  refine wpAny_bind (wpAny_alloc ?_)
  have hn := I.hok.fresh (Nat.le_refl s.heap.objs.size)
  have I1 := I.laid (a := s.heap.objs.size) (o := .dK []) (h' := s.heap.push { cls := .type "dict", data := .dict #[] }) (t' := s.toks) (fun _ _ q => Heap.get?_push_of_some _ q) (Nat.le_refl _) (dk_empty s.heap I.big)
  have h1 := h _ hn
  generalize hp : s.heap.objs.size = p at hn I1 h1 ⊢
  refine wpAny_bind (wpAny_holding (wpAny_bind (thn (ho.run pins _ σ _ _ I1 h1) fun u s1 ⟨x, H1, I2, rx, a, kvs, ex, hap, hrd, hlen, hpp, hq⟩ => wpAny_bind (wpAny_standAt (wpAny_pure ?_)))))
  subst ex
  obtain rfl : u = Value.ref a := rx
  obtain ⟨za, hda, vs, rel, dd⟩ := dk_rd I2.hok hrd
  obtain ⟨zp, hdp, vs0, r0, ddp⟩ := dk_of I2.hok hpp
  cases r0
  have hvl : vs.length < 1000 := by rw [← rel.length]; exact hlen
  have hml : (mergeK [] kvs).length ≤ sizeLine := by
    have h2 := length_mergeK kvs []
    rw [List.length_nil] at h2
    rw [sizeLine_eq]; omega
  refine wpAny_bind (wpAny_onRaise (wpAny_tryCatch (wpAny_onRaise (wpAny_holding (merge_run (Ne.symm hap) hda ddp dd (fun h' dm hs => ?_) (by rw [List.length_nil, sizeLine_eq]; omega))))))
  have he : ∃ q, h'.get? p = some q := let ⟨q, _, _, hq', _⟩ := dm; ⟨q, hq'⟩
  have I3 := d_write (t' := s1.toks) I2 (by rw [hpp]; exact True.intro) hs he (dk_new hml hdp (rel.merge .nil) dm)
  refine wpAny_pure ?_
  dsimp only
  refine wpAny_bind ?_
  show wpAny _ _ (if (_ == 17) = true then _ else _) _ _ _
  refine wpAny_ite ?_
  rw [if_neg (by simp)]
  refine wpAny_pure ?_
  dsimp only
  refine wpAny_pure ?_
  dsimp only
  refine wpAny_bind ?_
  refine wpAny_ite ?_
  rw [if_neg (by simp)]
  refine wpAny_bind (wpAny_holding ?_)
  generalize hs2 : ({ s1 with heap := h', toks := s1.toks } : Shared) = s2 at I3
  have hn2 := I3.hok.fresh (Nat.le_refl s2.heap.objs.size)
  have I4 := I3.laid (a := s2.heap.objs.size) (o := .dK []) (h' := s2.heap.push { cls := .type "dict", data := .dict #[] }) (t' := s2.toks) (fun _ _ q => Heap.get?_push_of_some _ q) (Nat.le_refl _) (dk_empty s2.heap I3.big)
  have h4 := hq _ hn2
  refine wpAny_subDict (knd := mixKind X.prog X.w) (by simp) (thn ((pps_cons (pos := pos) hk hv pps_nil).run pins _ σ _ _ I4 h4) fun ws s3 ⟨ps, H4, I5, rw', key, z, eps, hq4, hp4, hQ⟩ => ?_)
  subst eps
  generalize hqq : s2.heap.objs.size = q at *
  obtain ⟨rs, c, rk⟩ := carries_of (P := X.prog) (w := X.w) (kvs := [(key, z)]) rw'
  obtain ⟨zq, hdq, vs1, r1, ddq⟩ := dk_of I5.hok hq4
  cases r1
  have hpq : p ≠ q := fun e => by
    subst e
    rw [upd_same] at hn2
    cases hn2
  refine ⟨rs, c, ddq, fun h2 dm2 hs3 => ?_⟩
  have he2 : ∃ o, h2.get? q = some o := let ⟨o, _, _, ho', _⟩ := dm2; ⟨o, ho'⟩
  have I6 := d_write (t' := s3.toks + ws.length) (ob := .dK [(key, z)]) I5 (by rw [hq4]; exact True.intro) hs3 he2 (dk_new (by simp [sizeLine_eq]) hdq rk (by
    have e := KV.length rk
    have : merged [] rs = rs := by
      cases rk with
      | cons a b => cases b; rfl
    rw [this] at dm2
    exact dm2))
  have hp6 : upd H4 q (.dK [(key, z)]) p = some (.dK (mergeK [] kvs)) := by rw [upd_ne hpq]; exact hp4
  have hq6 : upd H4 q (.dK [(key, z)]) q = some (.dK [(key, z)]) := upd_same
  obtain ⟨zp6, hdp6, vs6, r6, ddp6⟩ := dk_of I6.hok hp6
  obtain ⟨zq6, hdq6, vq6, rq6, ddq6⟩ := dk_of I6.hok hq6
  have hv6 : vq6.length = 1 := by rw [← rq6.length]; rfl
  have hm6 : vs6.length < 1000 := by
    rw [← r6.length]
    have h2 := length_mergeK kvs []
    rw [List.length_nil] at h2
    omega
  have hpl : (putK (mergeK [] kvs) key z).length ≤ sizeLine := by
    have h2 := length_mergeK kvs []
    have h3 := length_putK (mergeK [] kvs) key z
    rw [List.length_nil] at h2
    rw [sizeLine_eq]; omega
  refine wpAny_bind (wpAny_onRaise (wpAny_holding (merge_run (s := { s3 with heap := h2, toks := s3.toks + ws.length }) hpq hdq6 ddp6 ddq6 (fun h3 dm3 hs4 => ?_) (by rw [hv6, sizeLine_eq]; omega))))
  have he3 : ∃ o, h3.get? p = some o := let ⟨o, _, _, ho', _⟩ := dm3; ⟨o, ho'⟩
  have I7 := d_write (t' := s3.toks + ws.length) (ob := .dK (putK (mergeK [] kvs) key z)) I6 (by rw [hp6]; exact True.intro) hs4 he3 (dk_new hpl hdp6 (rq6.merge r6) dm3)
  refine wpAny_pure ?_
  dsimp only
  exact wpAny_pure ⟨.ref p, _, I7, rfl, hQ⟩
end
end FL
namespace FL
variable [HW]
open PySem PySem.Spec L2 PyProof.Rows
/-! ### {**d, k: v} -/
def dmrgK : List Str → List Str → List Str
  | [], ka => ka
  | g :: gs, ka => dmrgK gs (dputK ka g)
def dmrgX {α : Type} : List Str → List α → List Str → List α → List α
  | g :: gs, x :: xs, ka, xa => dmrgX gs xs (dputK ka g) (dputX g x ka xa)
  | _, _, _, xa => xa
theorem mergeK_kz : ∀ (ks : List Str) (vs : List V) (ka : List Str) (va : List V), ks.length = vs.length → ka.length = va.length → mergeK (kz ka va) (kz ks vs) = kz (dmrgK ks ka) (dmrgX ks vs ka va) ∧ (dmrgK ks ka).length = (dmrgX ks vs ka va).length
  | [], [], ka, va, _, h => ⟨rfl, h⟩
  | [], _ :: _, _, _, h, _ => by simp at h
  | _ :: _, [], _, _, h, _ => by simp at h
  | g :: gs, v :: vs, ka, va, h1, h2 => by
    have e : mergeK (kz ka va) (kz (g :: gs) (v :: vs)) = mergeK (putK (kz ka va) (.inr g) v) (kz gs vs) := rfl
    rw [e, putK_kz g v h2]
    exact mergeK_kz gs vs _ _ (by simpa using h1) (dput_len g v h2)
theorem RpAll.dmrgX {K : PySem.W.Frag} {φ : Nat → Option Addr} {H : Hp} : ∀ (ks : List Str) {xs xa : List D} {vs va : List V} {ka : List Str}, RpAll K φ H xs vs → RpAll K φ H xa va → RpAll K φ H (FL.dmrgX ks xs ka xa) (FL.dmrgX ks vs ka va)
  | [], _, _, _, _, _, _, r => by unfold FL.dmrgX; exact r
  | _ :: _, _, _, _, _, _, .nil, r => by unfold FL.dmrgX; exact r
  | g :: gs, _, _, _, _, _, .cons q t, r => by unfold FL.dmrgX; exact RpAll.dmrgX gs t (r.dputX q)
section
variable {X : Cx} {O : List Nat} {o kx vx : Expr} {F Kf E : Env → Option D} {pos : Pos}
def eStarD (F Kf E : Env → Option D) : Env → Option D := fun ρ => match F ρ with
  | some (.dct ks xs) => (match Kf ρ with
    | some (.str k) => (match E ρ with | some y => if ks.length < 1000 then some (.dct (dputK (dmrgK ks []) k) (dputX k y (dmrgK ks []) (dmrgX ks xs [] []))) else none | none => none)
    | _ => none)
  | _ => none
theorem eStarD_some {ρ : Env} {d : D} (h : eStarD F Kf E ρ = some d) : ∃ ks xs k y, F ρ = some (.dct ks xs) ∧ Kf ρ = some (.str k) ∧ E ρ = some y ∧ ks.length < 1000 ∧ d = .dct (dputK (dmrgK ks []) k) (dputX k y (dmrgK ks []) (dmrgX ks xs [] [])) := by
  unfold eStarD at h
  split at h
  · rename_i ks xs h1
    split at h
    · rename_i k h2
      split at h
      · rename_i y h3
        split at h
        · rename_i h4
          cases h
          exact ⟨ks, xs, k, y, h1, h2, h3, h4, rfl⟩
        · cases h
      · cases h
    · cases h
  · cases h
theorem fd_starD (ho : FE X O o F) (hk : FE X O kx Kf) (hv : FE X O vx E) : FD X O (.Dict [none, some kx] [o, vx] pos) (eStarD F Kf E) := fun φ Hf0 H0 ρ σ Hf H d Q S hF k => by
  obtain ⟨ks, xs, z, y, h1, h2, h3, h4, rfl⟩ := eStarD_some hF
  refine toE (pe_starD peW peW peW) fun p hp => ?_
  have gp : Gr Hf H Hf (upd H p (.dK [])) := ⟨Same.refl _, same_upd hp, S.sub.trans (same_upd hp), fun _ _ _ w => w⟩
  have fp : Hf p = none := S.sub.free hp
  refine ho φ Hf0 H0 ρ σ Hf _ _ _ (S.gr gp) h1 fun v1 Hf1 H1 g1 r1 => ?_
  cases r1 with
  | @dct a _ vs _ q l r =>
    have fp1 : Hf1 p = none := g1.n _ _ upd_same fp
    have hp1 : H1 p = some (.dK []) := g1.h _ _ upd_same
    have hap : a ≠ p := by
      rintro rfl
      rcases q with q | ⟨o, q⟩ <;> rw [fp1] at q <;> cases q
    obtain ⟨m1, m2⟩ := mergeK_kz ks vs [] [] l rfl
    refine ⟨a, kz ks vs, rfl, hap, rd_mono g1.s q, by rw [List.length_zip, List.length_map]; omega, hp1, fun q2 hq2 => ?_⟩
    have m1' : mergeK [] (kz ks vs) = kz (dmrgK ks []) (dmrgX ks vs [] []) := m1
    rw [m1'] at hq2 ⊢
    have hpq : q2 ≠ p := by
      rintro rfl
      rw [upd_same] at hq2; cases hq2
    have hq1 : H1 q2 = none := by rw [upd_ne hpq] at hq2; exact hq2
    have g01 := gp.trans g1
    have hne : ∀ b u, H b = some u → b ≠ p := fun b u e z => by rw [z, hp] at e; cases e
    have g2 : Gr Hf H Hf1 (upd H1 p (.dK (kz (dmrgK ks []) (dmrgX ks vs [] [])))) := by
      refine ⟨g01.f, fun b u e => ?_, fun b u e => ?_, fun b u e1 e2 => g01.n b u e1 e2⟩
      · rw [upd_ne (hne b u e)]; exact g01.h _ _ e
      · rw [upd_ne (fun w => by rw [w, fp1] at e; cases e)]; exact g1.s _ _ e
    have g3 : Gr Hf H Hf1 (upd (upd H1 p (.dK (kz (dmrgK ks []) (dmrgX ks vs [] [])))) q2 (.dK [])) := g2.trans ⟨Same.refl _, same_upd hq2, g2.s.trans (same_upd hq2), fun _ _ _ w => w⟩
    refine hk φ Hf0 H0 ρ σ Hf1 _ _ _ (S.gr g3) h2 fun v2 Hf2 H2 g4 r2 => ?_
    refine hv φ Hf0 H0 ρ σ Hf2 _ _ _ ((S.gr g3).gr g4) h3 fun v3 Hf3 H3 g5 r3 => ?_
    cases r2
    have g45 := g4.trans g5
    have hq3 : H3 q2 = some (.dK []) := g45.h _ _ upd_same
    have hp3 : H3 p = some (.dK (kz (dmrgK ks []) (dmrgX ks vs [] []))) := g45.h _ _ (by rw [upd_ne (Ne.symm hpq), upd_same])
    have fp3 : Hf3 p = none := g45.n _ _ (by rw [upd_ne (Ne.symm hpq), upd_same]) fp1
    have fq1 : Hf1 q2 = none := g1.s.free hq1
    have fq3 : Hf3 q2 = none := g45.n _ _ upd_same fq1
    refine ⟨.inr z, v3, rfl, hq3, hp3, ?_⟩
    rw [putK_kz z v3 m2]
    have hqH : H q2 = none := by
      cases e : H q2 with
      | none => rfl
      | some u => rw [g01.h _ _ e] at hq1; cases hq1
    have gg := g3.trans g45
    refine k p _ _ (dputX z v3 (dmrgK ks []) (dmrgX ks vs [] [])) Hf3 _ rfl ⟨gg.f, fun b u e => ?_, fun b u e => ?_, gg.n⟩ hp fp3 upd_same (dput_len z v3 m2) ((((RpAll.dmrgX ks r .nil).mono g45.f)).dputX r3)
    · rw [upd_ne (hne b u e), upd_ne (fun w => by rw [w, hqH] at e; cases e)]; exact gg.h _ _ e
    · rw [upd_ne (fun w => by rw [w, fp3] at e; cases e), upd_ne (fun w => by rw [w, fq3] at e; cases e)]; exact gg.s _ _ e
end
/-! ### a walk over a dict's keys -/
section
variable {K : PySem.W.Frag} {φ : Nat → Option Addr} {H H' : Hp} {a : Addr} {kvs : List (Key × V)}
theorem rdK {b : Addr} {o : HO} (h : Rd H a (.dK kvs)) (e : H b = some o) (n : ∀ k, o ≠ .dK k) (n2 : ∀ q k, o ≠ .frz q (.dK k)) : b ≠ a := by
  rintro rfl
  rcases h with h | ⟨q, h⟩
  · rw [h] at e; cases e; exact n _ rfl
  · rw [h] at e; cases e; exact n2 _ _ rfl
theorem SqT_swap (h1 : Rd H a (.dK kvs)) (k : ∀ b o, b ≠ a → H b = some o → H' b = some o) {b : Addr} {xs : List V} (h : SqT K H b xs) : SqT K H' b xs := by
  rcases h with (h | ⟨o, h⟩) | h
  · exact .inl (.inl (k _ _ (rdK h1 h (fun _ z => nomatch z) fun _ _ z => nomatch z) h))
  · exact .inl (.inr ⟨o, k _ _ (rdK h1 h (fun _ z => nomatch z) fun _ _ z => nomatch z) h⟩)
  · exact .inr h
theorem SqL_swap (h1 : Rd H a (.dK kvs)) (k : ∀ b o, b ≠ a → H b = some o → H' b = some o) {b : Addr} {xs : List V} (h : SqL K H b xs) : SqL K H' b xs := by
  rcases h with (h | ⟨o, h⟩) | h
  · exact .inl (.inl (k _ _ (rdK h1 h (fun _ z => nomatch z) fun _ _ z => nomatch z) h))
  · exact .inl (.inr ⟨o, k _ _ (rdK h1 h (fun _ z => nomatch z) fun _ _ z => nomatch z) h⟩)
  · exact .inr h
theorem rd_swap (h1 : Rd H a (.dK kvs)) (h2 : Rd H' a (.dK kvs)) (k : ∀ b o, b ≠ a → H b = some o → H' b = some o) {b : Addr} {l : List (Key × V)} (h : Rd H b (.dK l)) : Rd H' b (.dK l) := by
  by_cases e : b = a
  · subst e
    have : l = kvs := by
      rcases h1 with h1 | ⟨q, h1⟩ <;> rcases h with h | ⟨q', h⟩ <;> rw [h1] at h <;> cases h <;> rfl
    rw [this]; exact h2
  · exact h.imp (k _ _ e) fun ⟨o, h⟩ => ⟨o, k _ _ e h⟩
mutual
theorem Rp.swap (h1 : Rd H a (.dK kvs)) (h2 : Rd H' a (.dK kvs)) (k : ∀ b o, b ≠ a → H b = some o → H' b = some o) : ∀ {d : D} {v : V}, Rp K φ H d v → Rp K φ H' d v
  | _, _, .non => .non
  | _, _, .bl b => .bl b
  | _, _, .int i => .int i
  | _, _, .str x => .str x
  | _, _, .tup s r => .tup (SqT_swap h1 k s) (RpAll.swap h1 h2 k r)
  | _, _, .lst s r => .lst (k _ _ (rdK h1 s (fun _ z => nomatch z) fun _ _ z => nomatch z) s) (RpAll.swap h1 h2 k r)
  | _, _, .klst s r => .klst (SqL_swap h1 k s) (RpAll.swap h1 h2 k r)
  | _, _, .obj h => .obj h
  | _, _, .ins s l r => .ins (k _ _ (rdK h1 s (fun _ z => nomatch z) fun _ _ z => nomatch z) s) l (RpAll.swap h1 h2 k r)
  | _, _, .dct s l r => .dct (rd_swap h1 h2 k s) l (RpAll.swap h1 h2 k r)
  | _, _, .xtp s p r => .xtp (k _ _ (rdK h1 s (fun _ z => nomatch z) fun _ _ z => (by cases z)) s) p (RpAll.swap h1 h2 k r)
  | _, _, .dkt s a b c d f g r t => .dkt (s.map fun v e z => k _ _ (rdK h1 e (fun _ w => by rcases z with rfl | ⟨o, rfl⟩ <;> (first | cases w | (unfold dkO at w; cases w))) (fun _ _ w => by rcases z with rfl | ⟨o, rfl⟩ <;> (unfold dkO at w; cases w))) e) a b c d f g (RpAll.swap h1 h2 k r) (RpAll.swap h1 h2 k t)
theorem RpAll.swap (h1 : Rd H a (.dK kvs)) (h2 : Rd H' a (.dK kvs)) (k : ∀ b o, b ≠ a → H b = some o → H' b = some o) : ∀ {ds : List D} {vs : List V}, RpAll K φ H ds vs → RpAll K φ H' ds vs
  | _, _, .nil => .nil
  | _, _, .cons r t => .cons (r.swap h1 h2 k) (RpAll.swap h1 h2 k t)
end
theorem itB_keys {Hf : Hp} {od : Obj} {ks : List Str} {vs : List V} (hl : ks.length = vs.length) (h : H a = some (.frz od (.dK (kz ks vs)))) : ItB K φ Hf H (ks.map D.str) (Itk a od (kz ks vs)) := fun i Hf1 H1 g => by
  have hlen : (kz ks vs).length = ks.length := by rw [List.length_zip, List.length_map]; omega
  refine ⟨fun hi => ⟨g.h _ _ h, by rw [hlen]; simpa using hi⟩, fun d hd => ⟨⟨g.h _ _ h, ?_⟩, ?_⟩⟩
  · rw [hlen]
    have := (List.getElem?_eq_some_iff.mp hd).1
    simpa using this
  · rintro x H2 ⟨rfl, k, v, e, rfl⟩
    refine ⟨Hf1, .refl g.s, ?_⟩
    rw [List.getElem?_map] at hd
    obtain ⟨z, hz, rfl⟩ := Option.map_eq_some_iff.mp hd
    have e2 : (kz ks vs)[i]? = some (.inr z, v) := by
      rw [List.getElem?_zip_eq_some] at e ⊢
      refine ⟨?_, e.2⟩
      rw [List.getElem?_map, hz]; rfl
    rw [e] at e2
    cases e2
    exact .str z
end
section
variable {X : Cx} {O O2 : List Nat} {tg kx elt : Expr} {scope : Scope} {own : List (Str × Nat)} {pos xpos : Pos}
def eDcK (i0 : Nat) (vs : List Nat) (g : D → Env → Option Env) (T : Env → Option Bool) (Kf E : Env → Option D) : Env → Option D := fun ρ => match ρ[i0]? with
  | some (some (.dct ks0 _)) => (match dcL g T Kf E (wipeE ρ vs) (ks0.map D.str) [] [] with | some (ks, xs) => some (.dct ks xs) | none => none)
  | _ => none
theorem fd_dcK {c : Expr} {x : Str} {i0 : Nat} {T : Env → Option Bool} {g : D → Env → Option Env} {Kf E : Env → Option D} {tgs : List Nat} (hx : X.N[i0]? = some x) (hvis : Vis X.env.scope x) (hO : O.contains i0 = false) (hc : X.calm = true) (hN : X.N.Nodup) (ok : BlkOk X.N X.env.scope scope own)
    (hg : ∀ s H C cl fp, FG (X.blk s H scope (compEnvC scope cl C X.env) fp) O O2 tgs tg g) (ht : ∀ s H C cl fp, FT (X.blk s H scope (compEnvC scope cl C X.env) fp) O2 c T) (hk : ∀ s H C cl fp, FE (X.blk s H scope (compEnvC scope cl C X.env) fp) O2 kx Kf) (he : ∀ s H C cl fp, FE (X.blk s H scope (compEnvC scope cl C X.env) fp) O2 elt E)
    (htg : (tgs.all fun i => (own.map (·.2)).contains i) = true) (hs : ∀ y, foldedSetIterable (.Name x xpos) X.env y = pure y := by intro _; rfl) (hd : (x == ("__debug__" : Str)) = false := by decide +kernel) (hcd : (x == ("__classdict__" : Str)) = false := by decide +kernel) :
    FD X O (.DictComp kx elt [⟨tg, .Name x xpos, [c], 0⟩] scope pos) (eDcK i0 (own.map (·.2)) g T Kf E) := by
  intro φ Hf0 H0 ρ σ Hf H d Q S hF k
  unfold eDcK at hF
  split at hF
  · rename_i ks0 xs0 h0
    split at hF
    · rename_i kso xso hys
      have hno : i0 ∉ O := fun z => by
        have := List.contains_iff_mem.mpr z
        rw [hO] at this; cases this
      obtain ⟨v, e0, r0⟩ := S.val i0 _ h0 hno
      have pe := pe_dc (pos := pos) (wi := wI X tg (.Name x xpos)) (g := uG X scope tg) (tt := uT X scope c) (tk := uE X scope kx) (tv := uE X scope elt) hc hN piW ok (fun s H C cl fp => ⟨fun pins s' σ H' v u Q I r h => (h s H C cl fp).h pins s' u I r⟩) (fun s H C cl fp => pts_one ⟨fun pins s' σ H' Q I h => (h s H C cl fp).h pins s' I⟩) (fun s H C cl fp => ⟨fun pins s' σ H' Q I h => (h s H C cl fp).h pins s' I⟩) (fun s H C cl fp => ⟨fun pins s' σ H' Q I h => (h s H C cl fp).h pins s' I⟩) hs
      cases r0 with
      | @dct a _ vs0 _ q l r =>
        have go : ∀ {Hf1 H1 : Hp} {Hfa H0a : Hp} (S1 : SR X.K φ Hfa H0a O ρ σ Hf1 H1) (od : Obj), H1 a = some (.frz od (.dK (kz ks0 vs0))) → ∀ Q' : VK, (∀ a' ks xs us Hf' H', d = .dct ks xs → Gr Hf1 H1 Hf' H' → H1 a' = none → Hf' a' = none → H' a' = some (.dK (kz ks us)) → ks.length = us.length → RpAll X.K φ Hf' xs us → Q' (.ref a') H') →
            tDc (wI X tg (.Name x xpos)) (uG X scope tg) (uT X scope c) (uE X scope kx) (uE X scope elt) (own.map (·.2)) σ H1 Q' := fun {Hf1 H1 Hfa H0a} S1 od hfz Q' k' => by
          refine dc_go0 (O := O) (O2 := O2) (ds := ks0.map D.str) (fun _ _ _ h => h) hg (fun i hi => by simpa using (List.all_eq_true.mp htg) i hi) (fun φ Hf0 H0 ρ σ Hf H b Q S h k s0 h0 C0 cl0 fp0 => ht s0 h0 C0 cl0 fp0 φ Hf0 H0 ρ σ Hf H b Q S h k) hk he S1 hys (Option.some.inj hF).symm (fun R h => ?_) k'
          refine toI (pi_keys (pe_var hx hvis hd hcd)) ?_
          exact ⟨_, e0, a, od, rfl, .inl ⟨_, hfz, h _ Hf1 H1 (.refl S1.sub) (itB_keys l hfz)⟩⟩
        rcases q with q | ⟨od, q⟩
        · refine toE (pe_lock pe) ?_
          have hH : H a = some (.dK (kz ks0 vs0)) := S.sub _ _ q
          refine ⟨a, .dK (kz ks0 vs0), hH, True.intro, fun od => ?_⟩
          have rdl : Rd (upd Hf a (.frz od (.dK (kz ks0 vs0)))) a (.dK (kz ks0 vs0)) := .inr ⟨od, upd_same⟩
          have up : ∀ {A : Hp} b o, b ≠ a → A b = some o → upd A a (.frz od (.dK (kz ks0 vs0))) b = some o := fun b o n e => by rw [upd_ne n]; exact e
          have S1 : SR X.K φ (fun b => if b = a then none else Hf0 b) (fun b => if b = a then none else H0 b) O ρ σ (upd Hf a (.frz od (.dK (kz ks0 vs0)))) (upd H a (.frz od (.dK (kz ks0 vs0)))) := by
            refine ⟨S.len, fun b o e => ?_, fun b o e => ?_, fun b o e => ?_, fun b o e1 e2 => ?_, fun i d' e n => ?_, fun i d' e m => ?_, S.ne⟩
            · by_cases hb : b = a
              · subst hb; rw [upd_same] at e ⊢; exact e
              · rw [upd_ne hb] at e ⊢; exact S.sub _ _ e
            · by_cases hb : b = a
              · rw [if_pos hb] at e; cases e
              · rw [if_neg hb] at e; rw [upd_ne hb]; exact S.gf _ _ e
            · by_cases hb : b = a
              · rw [if_pos hb] at e; cases e
              · rw [if_neg hb] at e; rw [upd_ne hb]; exact S.gh _ _ e
            · by_cases hb : b = a
              · rw [if_pos hb] at e1; cases e1
              · rw [if_neg hb] at e1 e2; rw [upd_ne hb]; exact S.gn _ _ e1 e2
            · obtain ⟨v', w1, w2⟩ := S.val i d' e n
              exact ⟨v', w1, w2.swap (.inl q) rdl up⟩
            · obtain ⟨b, ys, us, w1, w2, w3, w4, w5, w6⟩ := S.own i d' e m
              have hb : b ≠ a := by rintro rfl; rw [q] at w4; cases w4
              exact ⟨b, ys, us, w1, w2, by rw [upd_ne hb]; exact w3, by rw [upd_ne hb]; exact w4, by rw [if_neg hb]; exact w5, RpAll.swap (.inl q) rdl up w6⟩
          refine go S1 od upd_same _ fun a' ks xs us Hf' H' e1 g1 n1 n2 n3 n4 r3 => ?_
          have fz : H' a = some (.frz od (.dK (kz ks0 vs0))) := g1.h _ _ upd_same
          have fzf : Hf' a = some (.frz od (.dK (kz ks0 vs0))) := g1.f _ _ upd_same
          have hna : a' ≠ a := by rintro rfl; rw [fz] at n3; cases n3
          refine ⟨fz, k a' ks xs us (upd Hf' a (.dK (kz ks0 vs0))) (upd H' a (.dK (kz ks0 vs0))) e1 ⟨fun b o e => ?_, fun b o e => ?_, fun b o e => ?_, fun b o e1 e2 => ?_⟩ (by rw [upd_ne hna] at n1; exact n1) (by rw [upd_ne hna]; exact n2) (by rw [upd_ne hna]; exact n3) n4 (RpAll.swap (.inr ⟨od, fzf⟩) (.inl upd_same) (fun b o n e => by rw [upd_ne n]; exact e) r3)⟩
          · by_cases hb : b = a
            · subst hb; rw [q] at e; cases e; exact upd_same
            · rw [upd_ne hb]; exact g1.f _ _ (by rw [upd_ne hb]; exact e)
          · by_cases hb : b = a
            · subst hb; rw [hH] at e; cases e; exact upd_same
            · rw [upd_ne hb]; exact g1.h _ _ (by rw [upd_ne hb]; exact e)
          · by_cases hb : b = a
            · subst hb; rw [upd_same] at e ⊢; exact e
            · rw [upd_ne hb] at e ⊢; exact g1.s _ _ e
          · have hb : b ≠ a := by rintro rfl; rw [q] at e2; cases e2
            rw [upd_ne hb]
            exact g1.n b o (by rw [upd_ne hb]; exact e1) (by rw [upd_ne hb]; exact e2)
        · exact toE pe (go S od (S.sub _ _ q) Q k)
    · cases hF
  · cases hF
end
/-! ### tuple(d), list(d) -/
theorem call_tupD {X : Cx} (hh : X.A.handled = none) : CallR X (.type "tuple") (fun xs H Q => ∃ (a : Addr) (kvs : List (Key × V)), xs = [.ref a] ∧ Rd H a (.dK kvs) ∧ ∀ p, H p = none → Q (.ref p) (upd H p (.tup (kvs.map fun kv => kV kv.1)))) := by
  intro pins s σ H xs us Q I r h
  obtain ⟨a, kvs, rfl, hD, q⟩ := h
  obtain ⟨u, rfl, ru⟩ := vals1 r
  cases ru
  obtain ⟨z, lo, vs, rel, o, es, ep, ho, hc, hd, hk, hp, hn⟩ := dk_rd I.hok hD
  have hlen : es.size = kvs.length := by
    rw [rel.length, ← hp.length]; simp
  refine dict_tuple hh lo ⟨o, ho, hc, hd⟩ (by rw [hlen]; exact z) fun h' tk acc hk' hlt hi => ?_
  have hv : Vals (kvs.map fun kv => kV kv.1) acc.toList := by
    have e : acc.toList.length = kvs.length := by rw [Array.length_toList, hi.1, hlen]
    refine vals_of_at (by rw [List.length_map, e]) fun j x u e1 e2 => ?_
    rw [List.getElem?_map] at e1
    obtain ⟨kv, ekv, rfl⟩ := Option.map_eq_some_iff.mp e1
    obtain ⟨hje, e3⟩ := hi.2 j u (by rw [← Array.getElem?_toList]; exact e2)
    subst e3
    have e4 : (kvs.map (·.1))[j]? = some kv.1 := by rw [List.getElem?_map, ekv]; rfl
    rw [rel.keys, List.getElem?_map] at e4
    obtain ⟨kw, ekw, e5⟩ := Option.map_eq_some_iff.mp e4
    obtain ⟨k1, v1⟩ := kw
    obtain ⟨hkey, _⟩ := hp.get? (e := es[j]) (by simp [hje]) ekw
    have e5' : k1 = kv.1 := e5
    rw [← e5']
    exact keyIs_rel hkey
  have hp' : s.heap.objs.size ≤ h'.objs.size := Nat.le_of_lt hlt
  refine ⟨.ref h'.objs.size, upd H h'.objs.size (.tup (kvs.map fun kv => kV kv.1)), ?_, rfl, q _ (I.hok.fresh hp')⟩
  refine I.laid (t' := tk) (fun b ob w => Heap.get?_push_of_some _ (hk' b ob w)) hp' ⟨by rw [List.length_map]; exact z, acc.toList, hv, ?_⟩
  exact ⟨_, Heap.get?_push_size _ rfl, rfl, 0, by simp⟩
theorem kz_keys : ∀ (ks : List Str) (vs : List V), ks.length = vs.length → (kz ks vs).map (fun kv => kV kv.1) = ks.map V.str
  | [], [], _ => rfl
  | [], _ :: _, h => by simp at h
  | _ :: _, [], h => by simp at h
  | k :: ks, v :: vs, h => by
    show V.str k :: (kz ks vs).map _ = V.str k :: ks.map V.str
    rw [kz_keys ks vs (by simpa using h)]
theorem rp_strsK {K : PySem.W.Frag} {φ : Nat → Option Addr} {H : Hp} : ∀ ks : List Str, RpAll K φ H (ks.map D.str) (ks.map V.str)
  | [] => .nil
  | k :: ks => .cons (.str k) (rp_strsK ks)
section
variable {X : Cx} {O : List Nat} {e : Expr} {F : Env → Option D} {p pos : Pos} {nm : Str}
def eTupD (F : Env → Option D) : Env → Option D := fun ρ => match F ρ with | some (.dct ks _) => some (.tup (ks.map D.str)) | _ => none
def eLstD (F : Env → Option D) : Env → Option D := fun ρ => match F ρ with | some (.dct ks _) => some (.lst (ks.map D.str)) | _ => none
theorem fe_tupD (hh : X.A.handled = none) (h : FE X O e F) (hgl : Gl X nm) (hmg : X.mg nm = none) (hbt : bootBuiltins nm = some (.type "tuple")) (hnm : nm ≠ "__name__" := by decide +kernel) (hdb : (nm == ("__debug__" : Str)) = false := by decide +kernel)
    (hst : starEach [e] X.env = (false, eval e X.env) :: starEach [] X.env := by rfl) (hpl : (backTo pos (starEach [] X.env)).any (·.1) = false := by rfl) : FE X O (.Call (.Name nm p) [e] [] pos) (eTupD F) := fun φ Hf0 H0 ρ σ Hf H d Q S hF k => by
  unfold eTupD at hF
  split at hF
  · rename_i ks xs h1
    cases hF
    refine toE (pe_callTy (call_tupD hh) hgl hmg hbt (pa_cons peW pa_nil hst) hnm hdb hst hpl) ?_
    refine h φ Hf0 H0 ρ σ Hf H _ _ S h1 fun v Hf1 H1 g1 r1 => ?_
    cases r1 with
    | @dct a _ vs _ q l r =>
      refine ⟨a, kz ks vs, rfl, rd_mono g1.s q, fun p hp => ?_⟩
      rw [kz_keys ks vs l]
      have g2 : Gr Hf1 H1 (upd Hf1 p (.tup (ks.map V.str))) (upd H1 p (.tup (ks.map V.str))) := .new g1.s hp
      exact k (.ref p) _ _ (g1.trans g2) (.tup (.inl (.inl upd_same)) (rp_strsK ks))
  · cases hF
theorem fn_lstD (hc : X.calm = true) (h : FE X O e F) (hgl : Gl X nm) (hmg : X.mg nm = none) (hbt : bootBuiltins nm = some (.type "list")) (hnm : nm ≠ "__name__" := by decide +kernel) (hdb : (nm == ("__debug__" : Str)) = false := by decide +kernel)
    (hst : starEach [e] X.env = (false, eval e X.env) :: starEach [] X.env := by rfl) (hpl : (backTo pos (starEach [] X.env)).any (·.1) = false := by rfl) : FN X O (.Call (.Name nm p) [e] [] pos) (eLstD F) := fun φ Hf0 H0 ρ σ Hf H d Q S hF k => by
  unfold eLstD at hF
  split at hF
  · rename_i ks xs h1
    cases hF
    refine toE (pe_callTy (call_listD hc) hgl hmg hbt (pa_cons peW pa_nil hst) hnm hdb hst hpl) ?_
    refine h φ Hf0 H0 ρ σ Hf H _ _ S h1 fun v Hf1 H1 g1 r1 => ?_
    cases r1 with
    | @dct a _ vs _ q l r =>
      refine ⟨a, kz ks vs, rfl, rd_mono g1.s q, fun p hp => ?_⟩
      rw [kz_keys ks vs l]
      have hpH : H p = none := by
        cases e : H p with
        | none => rfl
        | some u => rw [g1.h _ _ e] at hp; cases hp
      exact k p _ _ Hf1 _ rfl (g1.trans ⟨Same.refl _, same_upd hp, g1.s.trans (same_upd hp), fun _ _ _ w => w⟩) hpH (g1.s.free hp) upd_same (rp_strsK ks)
  · cases hF
end
end FL
namespace FL
variable [HW]
open PySem PySem.Spec L2
/-! ### dicts that change in place -/
def setD (S : List Ob) (i : Nat) (ks : List Str) (xs : List D) : List Ob := match S[i]? with | some o => S.set i ⟨.dic, o.c, ks, xs⟩ | none => S
section
variable {X : Cx} {O : List Nat} {e ix : Expr} {es : List Expr} {pos pos' xpos apos cpos : Pos} {Fi : Env → Option D} {i : Nat} {x : Str}
def mPutD (i : Nat) (Fi : Env → Option D) (M1 : Env → List Ob → Option (D × List Ob)) : Env → List Ob → Option MOut := fun ρ S => match M1 ρ S with
  | some (d, S1) => (match Fi ρ with
    | some (.str k) => (match ρ[i]? with
      | some (some (.obj t)) => (match S1[t]? with
        | some o => if o.k = .dic ∧ o.fs.length < 1000 then some (.nx ρ (setD S1 t (dputK o.fs k) (dputX k d o.fs o.xs))) else none
        | none => none)
      | _ => none)
    | _ => none)
  | none => none
theorem ms_dput {M1 : Env → List Ob → Option (D × List Ob)} (hu : X.A.units + 64 < cLine) (hN : X.N[i]? = some x) (hv : Vis X.env.scope x) (hO : O.contains i = false) (h : ME X O e M1) (hi : FE X O ix Fi) (hd : (x == ("__debug__" : Str)) = false := by decide +kernel) (hcd : (x == ("__classdict__" : Str)) = false := by decide +kernel)
    (hs : swapsWith e (some (.Subscript (.Name x xpos) ix pos')) pos.line X.env = pure false := by rfl) : MS X O O (.Assign [.Subscript (.Name x xpos) ix pos'] e pos) (mPutD i Fi M1) := fun φ B Bf ρ S σ Hf H out Dn M hF P => by
  unfold mPutD at hF
  split at hF
  · rename_i d S1 hd'
    split at hF
    · rename_i k hk
      split at hF
      · rename_i t ht
        split at hF
        · rename_i o h3
          split at hF
          · rename_i hk1
            cases hF
            have hno : i ∉ O := fun z => by
              have := List.contains_iff_mem.mpr z
              rw [hO] at this; cases this
            obtain ⟨v0, e0, r0⟩ := M.sr.val i _ ht hno
            cases r0 with
            | obj hp =>
              refine toS (ps_dput (by omega) (pe_var hN hv hd hcd) peW peW hs) ?_
              refine h φ B Bf ρ S σ Hf H d S1 _ M hd' fun φ1 v Hf1 H1 e1 s1 M1 r1 => ?_
              refine ⟨_, e0, ?_⟩
              refine hi φ1 _ _ ρ σ Hf1 H1 _ _ M1.sr hk fun z Hf2 H2 g2 r2 => ?_
              cases r2
              have M2 := M1.gr g2
              obtain ⟨b, y1, y2, y3⟩ := M2.cl.at_ _ _ h3
              rw [e1 _ _ hp] at y1
              cases y1
              obtain ⟨vs1, y4, y5, y6⟩ := y3.dic hk1.1
              refine ⟨_, _, rfl, DPut.k (k := .inr k) y4 (by rw [List.length_zip, List.length_map, sizeLine_eq]; omega), ?_⟩
              have M3 := M2.setO (o' := ⟨.dic, o.c, dputK o.fs k, dputX k d o.fs o.xs⟩) h3 (e1 _ _ hp) (u := .dK (putK (kz o.fs vs1) (.inr k) v)) ⟨dputX k v o.fs vs1, y6.dputX (r1.mono g2.f), dput_len k v y5, by rw [putK_kz k v y5]⟩
              have e3 : setD S1 t (dputK o.fs k) (dputX k d o.fs o.xs) = S1.set t ⟨.dic, o.c, dputK o.fs k, dputX k d o.fs o.xs⟩ := by unfold setD; rw [h3]
              rw [e3] at P
              exact P φ1 _ Hf2 _ e1 (s1.trans g2.f) M3
          · cases hF
        · cases hF
      · cases hF
    · cases hF
  · cases hF
def mPopD (i : Nat) (Fi : Env → Option D) : Env → List Ob → Option MOut := fun ρ S => match Fi ρ with
  | some (.str k) => (match ρ[i]? with
    | some (some (.obj t)) => (match S[t]? with
      | some o => if o.k = .dic ∧ dhas k o.fs = true then some (.nx ρ (setD S t (ddelK k o.fs) (ddelX k o.fs o.xs))) else none
      | none => none)
    | _ => none)
  | _ => none
theorem ms_dpop (hN : X.N[i]? = some x) (hv : Vis X.env.scope x) (hO : O.contains i = false) (hi : FE X O ix Fi) (hd : (x == ("__debug__" : Str)) = false := by decide +kernel) (hcd : (x == ("__classdict__" : Str)) = false := by decide +kernel)
    (m : L2.M1 X (.Name x xpos) "pop" apos ix cpos := by exact ⟨rfl, rfl, rfl, rfl⟩) (hs : swapsWith (.Call (.Attribute (.Name x xpos) "pop" apos) [ix] [] cpos) none pos.line X.env = pure false := by rfl) :
    MS X O O (.Expr (.Call (.Attribute (.Name x xpos) "pop" apos) [ix] [] cpos) pos) (mPopD i Fi) := fun φ B Bf ρ S σ Hf H out Dn M hF P => by
  unfold mPopD at hF
  split at hF
  · rename_i k hk
    split at hF
    · rename_i t ht
      split at hF
      · rename_i o h3
        split at hF
        · rename_i hk1
          cases hF
          have hno : i ∉ O := fun z => by
            have := List.contains_iff_mem.mpr z
            rw [hO] at this; cases this
          obtain ⟨v0, e0, r0⟩ := M.sr.val i _ ht hno
          cases r0 with
          | obj hp =>
            obtain ⟨b0, w1, w2, w3⟩ := M.cl.at_ _ _ h3
            rw [hp] at w1
            cases w1
            obtain ⟨us0, w4, w5, w6⟩ := w3.dic hk1.1
            refine toS (ps_expr (pe_dpop1 (pe_var hN hv hd hcd) peW m) hs) ?_
            refine ⟨_, e0, _, rfl, .inl ⟨_, .inl w4⟩, ?_⟩
            refine hi φ _ _ ρ σ Hf H _ _ M.sr hk fun z Hf2 H2 g2 r2 => ?_
            cases r2
            have M2 := M.gr g2
            obtain ⟨b, y1, y2, y3⟩ := M2.cl.at_ _ _ h3
            rw [hp] at y1
            cases y1
            obtain ⟨vs1, y4, y5, y6⟩ := y3.dic hk1.1
            have hv1 : (dget k o.fs vs1).isSome = true := by rw [dget_has k o.fs vs1 y5]; exact hk1.2
            obtain ⟨v, ev⟩ := Option.isSome_iff_exists.mp hv1
            refine ⟨_, .inr k, v, y4, rfl, by rw [valV_kz]; exact ev, ?_⟩
            have M3 := M2.setO (o' := ⟨.dic, o.c, ddelK k o.fs, ddelX k o.fs o.xs⟩) h3 hp (u := .dK (dropK (kz o.fs vs1) (.inr k))) ⟨ddelX k o.fs vs1, RpAll.ddelX o.fs y6, ddel_len k y5, by rw [dropK_kz]⟩
            have e3 : setD S t (ddelK k o.fs) (ddelX k o.fs o.xs) = S.set t ⟨.dic, o.c, ddelK k o.fs, ddelX k o.fs o.xs⟩ := by unfold setD; rw [h3]
            rw [e3] at P
            exact P φ _ Hf2 _ (.refl φ) g2.f M3
        · cases hF
      · cases hF
    · cases hF
  · cases hF
def mMut0 (i : Nat) (f : List D → List D → Option (List D)) : Env → List Ob → Option MOut := fun ρ S => match ρ[i]? with
  | some (some (.obj t)) => (match S[t]? with
    | some o => if o.k = .lst then (match f o.xs [] with | some ys => some (.nx ρ (setL S t ys)) | none => none) else none
    | none => none)
  | _ => none
end
end FL
namespace FL
variable [HW]
open PySem PySem.Spec L2
/-! ### d.get(k), k a text or None -/
section
variable {X : Cx} {pins : List (Addr × Obj)} {σ : L2.St} {H : Hp} {s : Shared} {a : Addr} {kvs : List (Key × V)} {A : Around} {E : Value → Shared → Prop}
theorem d_getNone {Q : Value → Shared → Prop} (I : Inv X pins σ H s) (e : Rd H a (.dK kvs)) (h : ∀ s', Inv X pins σ H s' → Q .none s') : wpAny (model X.prog X.w) A (call (.builtin "dict.get") [.ref a, .none]) Q E s := by
  obtain ⟨_, hd, vs, _, dd⟩ := dk_rd I.hok e
  obtain ⟨f, hm, hf⟩ := none_map dd
  refine call_meetsIn PySem.F.slot_dict_get dd.typeIs PySem.F.entry_dict_get (PySem.F.args_dict_get_2 _ _) (meets_dict_get (noneKind X.prog X.w) a (show (noneKind X.prog X.w).is none .none = true from rfl) hd) ⟨_, hm, ?_⟩
  rw [hf]
  exact h _ (I.tok _)
end
section
variable {X : Cx} {O : List Nat} {o e : Expr} {F G : Env → Option D} {apos cpos : Pos} {td ty : TE}
def tDGetN (td ty : TE) : TE := fun σ H Q => td σ H fun x H1 => ∃ a, x = .ref a ∧ IsD H1 a ∧ ty σ H1 fun y H2 => (∃ o, DGet H2 a y o ∧ Q (o.getD .non) H2) ∨ (y = .non ∧ (∃ kvs, Rd H2 a (.dK kvs)) ∧ Q .non H2)
theorem pe_dgetN (hu : X.A.units + 1 < cLine) (ho : PE X o td) (he : PE X e ty) (m : L2.M1 X o "get" apos e cpos) : PE X (.Call (.Attribute o "get" apos) [e] [] cpos) (tDGetN td ty) := by
  refine ⟨fun pins s σ H Q I h => ?_⟩
  refine wpAny_Call_method m.base m.few m.line PySem.F.plainAttrs_dict PySem.F.slot_dict_get PySem.F.type_dict_get (thn (ho.run pins s σ H _ I h) fun u s1 ⟨x, H1, I1, rx, a, ex, d, q1⟩ => ?_)
  subst ex
  obtain rfl : u = Value.ref a := rx
  obtain ⟨t1, t2, _⟩ := isD_at I1 d
  refine ⟨t1, t2, ?_⟩
  rw [m.trees]
  refine Calls.callWith_builtin rfl (Calls.evalArgs_plain (Calls.spliced_cons (thn (he.run pins s1 σ H1 _ I1 q1) fun iv s2 ⟨y, H2, I2, ry, q2⟩ => Calls.spliced_nil ?_)))
  rcases q2 with ⟨ov, g, q2⟩ | ⟨ey, ⟨kvs, g⟩, q2⟩
  · exact d_get1 hu I2 g ry fun w' s3 I3 rw' => ⟨_, H2, I3, rw', q2⟩
  · subst ey
    obtain rfl : iv = Value.none := ry
    exact d_getNone I2 g fun s3 I3 => ⟨.non, H2, I3, rfl, q2⟩
def dgetND (x y : D) : Option D := match x, y with
  | .dct ks xs, .str k => (match dget k ks xs with | some d => some d | none => if dhas k ks = false then some .non else none)
  | .dct _ _, .non => some .non
  | _, _ => none
theorem fe_dgetN (hu : X.A.units + 64 < cLine) (ho : FE X O o F) (he : FE X O e G) (m : L2.M1 X o "get" apos e cpos := by exact ⟨rfl, rfl, rfl, rfl⟩) : FE X O (.Call (.Attribute o "get" apos) [e] [] cpos) (e2 dgetND F G) := fun φ Hf0 H0 ρ σ Hf H d Q S hF k => by
  obtain ⟨x, y, h1, h2, h3⟩ := e2_some hF
  unfold dgetND at h3
  split at h3
  · rename_i ks xs z
    refine toE (pe_dgetN (by omega) peW peW m) ?_
    refine ho φ Hf0 H0 ρ σ Hf H _ _ S h1 fun v1 Hf1 H1 g1 r1 => ?_
    cases r1 with
    | @dct a _ vs _ q l r =>
      refine ⟨a, rfl, .inl ⟨_, rd_mono g1.s q⟩, ?_⟩
      refine he φ Hf0 H0 ρ σ Hf1 H1 _ _ (S.gr g1) h2 fun v2 Hf2 H2 g2 r2 => ?_
      cases r2
      have D := dget_rd (k := .inr z) (rd_mono g2.s (rd_mono g2.f q))
      rw [valV_kz] at D
      split at h3
      · rename_i d' hd
        cases h3
        obtain ⟨v, e1, r3⟩ := (RpAll.dget z ks r).1 _ hd
        exact .inl ⟨_, D, k _ Hf2 H2 (g1.trans g2) (by rw [e1]; exact r3.mono g2.f)⟩
      · rename_i hd
        split at h3
        · cases h3
          have e1 := (RpAll.dget z ks r).2 hd
          exact .inl ⟨_, D, k _ Hf2 H2 (g1.trans g2) (by rw [e1]; exact .non)⟩
        · cases h3
  · rename_i ks xs
    cases h3
    refine toE (pe_dgetN (by omega) peW peW m) ?_
    refine ho φ Hf0 H0 ρ σ Hf H _ _ S h1 fun v1 Hf1 H1 g1 r1 => ?_
    cases r1 with
    | @dct a _ vs _ q l r =>
      refine ⟨a, rfl, .inl ⟨_, rd_mono g1.s q⟩, ?_⟩
      refine he φ Hf0 H0 ρ σ Hf1 H1 _ _ (S.gr g1) h2 fun v2 Hf2 H2 g2 r2 => ?_
      cases r2
      exact .inr ⟨rfl, ⟨_, rd_mono g2.s (rd_mono g2.f q)⟩, k _ Hf2 H2 (g1.trans g2) .non⟩
  · cases h3
end
end FL
namespace FL
variable [HW]
open PySem PySem.Spec L2
/-! ### tuples and comparisons over what changes objects -/
section
variable {X : Cx} {O : List Nat} {e a b : Expr} {es : List Expr} {pos : Pos} {M1 : Env → List Ob → Option (D × List Ob)} {A1 : Env → List Ob → Option (List D × List Ob)} {G : Env → Option D}
def qTup (A : Env → List Ob → Option (List D × List Ob)) : Env → List Ob → Option (D × List Ob) := fun ρ S => match A ρ S with
  | some (ds, S1) => (match tupD ds with | some d => some (d, S1) | none => none)
  | none => none
def qE2 (f : D → D → Option D) (M1 : Env → List Ob → Option (D × List Ob)) (G : Env → Option D) : Env → List Ob → Option (D × List Ob) := fun ρ S => match M1 ρ S with
  | some (x, S1) => (match G ρ with | some y => (match f x y with | some d => some (d, S1) | none => none) | none => none)
  | none => none
theorem qE2_some {f : D → D → Option D} {ρ : Env} {S S' : List Ob} {d : D} (h : qE2 f M1 G ρ S = some (d, S')) : ∃ x y, M1 ρ S = some (x, S') ∧ G ρ = some y ∧ f x y = some d := by
  unfold qE2 at h
  split at h
  · rename_i x S1 h1
    split at h
    · rename_i y h2
      split at h
      · rename_i d' h3
        cases h
        exact ⟨x, y, h1, h2, h3⟩
      · cases h
    · cases h
  · cases h
theorem mt_cmp {op : CmpOp} {r : R2} {f : D → D → Option D} (ho : OpR X (compareOp op) r) (hr : Op2 X.K r f) (ha : ME X O a M1) (hb : FB X O b G) (hm : behindInMarks op b = false) : MT X O (.Compare a [op] [b] pos) (qBl (qE2 f M1 G)) := fun φ B Bf ρ S σ Hf H c S' Q M hF q => by
  unfold qBl at hF
  split at hF
  · rename_i b' S1 hb'
    cases hF
    obtain ⟨x, y, h1, h2, h3⟩ := qE2_some hb'
    refine toT (pt_cmpR ho peW peW hm) ?_
    refine ha φ B Bf ρ S σ Hf H x _ _ M h1 fun φ1 v Hf1 H1 e1 s1 M1 r1 => ?_
    refine hb φ1 _ _ ρ σ Hf1 H1 y _ M1.sr h2 fun u Hf2 H2 g2 r2 => ?_
    refine hr φ1 Hf2 H2 x y _ v u _ g2.s (Rpb.gr g2 (.inl r1)) r2 h3 fun z Hf3 H3 g3 r3 => ?_
    cases r3
    exact ⟨_, rfl, q φ1 Hf3 H3 e1 (s1.trans (g2.trans g3).f) (M1.gr (g2.trans g3))⟩
  · cases hF
theorem qE2_val {f : D → D → Option D} {ρ : Env} {S S1 : List Ob} {x y d : D} (h1 : M1 ρ S = some (x, S1)) (h2 : G ρ = some y) (h3 : f x y = some d) : qE2 f M1 G ρ S = some (d, S1) := by
  unfold qE2
  rw [h1]
  dsimp only
  rw [h2]
  dsimp only
  rw [h3]
end
end FL
namespace FL
variable [HW]
open PySem PySem.Spec L2
/-! ### further steps of mirrors -/
section
variable {S : List Ob}
theorem w_putA {c f : Str} {F1 : FL.Env → List Ob → Option (D × List Ob)} {Fo : FL.Env → Option D} {G : FL.Env → List Ob → Option MOut} {ρ : FL.Env} {S1 : List Ob} {d : D} {t : Nat} {o : Option MOut} {ob : Ob} (h1 : F1 ρ S = some (d, S1)) (h2 : Fo ρ = some (.obj t)) (h3 : S1[t]? = some ob) (h4 : ob.k = .ins ∧ ob.c = c ∧ ob.fs.length < 1000) (k : G ρ (S1.set t ⟨ob.k, ob.c, putAK ob.fs f, putAX f d ob.fs ob.xs⟩) = o) : mSeq (mPutA c f Fo F1) G ρ S = o := by
  unfold mSeq mPutA
  rw [h1]
  dsimp only
  rw [h2]
  dsimp only
  rw [h3]
  dsimp only
  rw [if_pos h4]
  have e : putA S1 t f d = S1.set t ⟨ob.k, ob.c, putAK ob.fs f, putAX f d ob.fs ob.xs⟩ := by unfold putA; rw [h3]
  rw [e]
  exact k
theorem w_asg {F1 : FL.Env → List Ob → Option (D × List Ob)} {g : D → FL.Env → Option FL.Env} {G : FL.Env → List Ob → Option MOut} {ρ ρ' : FL.Env} {S1 : List Ob} {d : D} {o : Option MOut} (h1 : F1 ρ S = some (d, S1)) (h2 : g d ρ = some ρ') (k : G ρ' S1 = o) : mSeq (mAsg g F1) G ρ S = o := by
  unfold mSeq mAsg
  rw [h1]
  dsimp only
  rw [h2]
  exact k
theorem w_mutE {M0 : FL.Env → List Ob → Option (D × List Ob)} {A2 : FL.Env → List Ob → Option (List D × List Ob)} {f : List D → List D → Option (List D)} {G : FL.Env → List Ob → Option MOut} {ρ : FL.Env} {S0 S1 : List Ob} {o : Option MOut} {t : Nat} {ob ob1 : Ob} {ds ys : List D} (h0 : M0 ρ S = some (.obj t, S0)) (h2 : S0[t]? = some ob) (h3 : ob.k = .lst) (h4 : A2 ρ S0 = some (ds, S1)) (h5 : S1[t]? = some ob1) (h6 : ob1.k = .lst) (h7 : f ob1.xs ds = some ys) (k : G ρ (setL S1 t ys) = o) : mSeq (mMutE M0 f A2) G ρ S = o := by
  unfold mSeq mMutE
  rw [h0]
  dsimp only
  rw [h2]
  dsimp only
  rw [if_pos h3, h4]
  dsimp only
  rw [h5]
  dsimp only
  rw [if_pos h6, h7]
  exact k
theorem qLk_val {F : FL.Env → Option D} {ρ : FL.Env} {d : D} (h : F (ρ.map (shE S)) = some d) (hn : noIns d = true) : qLk F ρ S = some (d, S) := by
  unfold qLk
  rw [h]
  dsimp only
  rw [if_pos hn]
theorem qTl_val {T : FL.Env → Option Bool} {ρ : FL.Env} {b : Bool} (h : T (ρ.map (shE S)) = some b) : qTl T ρ S = some (b, S) := by
  unfold qTl
  rw [h]
theorem qLkN_val {F : FL.Env → Option D} {ρ : FL.Env} {xs : List D} (h : F (ρ.map (shE S)) = some (.lst xs)) (hn : noInss xs = true) : qLkN F ρ S = some (.lst xs, S) := by
  unfold qLkN
  rw [h]
  dsimp only
  rw [if_pos hn]
theorem mFld_val {c f : Str} {F1 : FL.Env → List Ob → Option (D × List Ob)} {ρ : FL.Env} {S1 : List Ob} {t : Nat} {ob : Ob} {d : D} (h1 : F1 ρ S = some (.obj t, S1)) (h2 : S1[t]? = some ob) (h3 : ob.k = .ins ∧ ob.c = c) (h4 : dget f ob.fs ob.xs = some d) : mFld c f F1 ρ S = some (d, S1) := by
  unfold mFld
  rw [h1]
  dsimp only
  rw [h2]
  dsimp only
  rw [if_pos h3, h4]
theorem mNewM_val {c : Str} {n : Nat} {mir : List D → List Ob → Option (D × List Ob)} {df ds : List D} {A : FL.Env → List Ob → Option (List D × List Ob)} {ρ : FL.Env} {S S1 S2 : List Ob} (h : A ρ S = some (ds, S1)) (hn : (ds ++ df).length = n) (hm : mir (.obj S1.length :: (ds ++ df)) (S1 ++ [⟨.ins, c, [], []⟩]) = some (.non, S2)) : mNewM c n mir df A ρ S = some (.obj S1.length, S2) := by
  unfold mNewM
  rw [h]
  dsimp only
  rw [if_pos hn, hm]
theorem or_f {A B : FL.Env → Option Bool} {ρ : FL.Env} {o : Option Bool} (h1 : A ρ = some false) (h2 : B ρ = o) : tOr A B ρ = o := by
  unfold tOr
  rw [h1]
  exact h2
theorem qPureA_val {Fs : FL.Env → Option (List D)} {ρ : FL.Env} {ds : List D} (h : Fs ρ = some ds) : qPureA Fs ρ S = some (ds, S) := by
  unfold qPureA
  rw [h]
end
end FL
namespace FL
variable [HW]
open PySem PySem.Spec L2 PySem.W HandSHeadRun
/-! ### the head's equation, in parts -/
theorem map3 {α β γ δ : Type} {o : Option α} {f : α → β} {g : α → γ} {h : α → δ} {x : β} {y : γ} {z : δ} (h1 : o.map f = some x) (h2 : o.map g = some y) (h3 : o.map h = some z) : o.map (fun s => (f s, g s, h s)) = some (x, y, z) := by
  cases o with
  | none => cases h1
  | some s =>
    have e1 : f s = x := Option.some.inj h1
    have e2 : g s = y := Option.some.inj h2
    have e3 : h s = z := Option.some.inj h3
    show some (f s, g s, h s) = _
    rw [e1, e2, e3]
def obsL (as : List Addr) (fa : List He.Fa) (fn : List He.DefD) (ex : PySem.W.Frag → Bool) (ts : List He.Tab) (ps : List PrD) (g : Addr → Option Obj) : AlP := obsPK fa fn ex ts ps (He.frG g as)
def hookL (as : List Addr) (fa : List He.Fa) (fn : List He.DefD) (ex : PySem.W.Frag → Bool) (ts : List He.Tab) (ps : List PrD) : PySem.W.Hook where
  α := AlP
  obs := fun s => obsL as fa fn ex ts ps s.heap.get?
  val := fun w => (((He.valD fn, true), ts.map fun t => some (He.keysIn w.params t.2)), valPr ps)
  says := fun w h => ∃ K : PySem.W.Frag, K.In h ∧ SaysP fa fn ex ts ps w K
  of := fun w _ e => ⟨_, He.frG_in, ⟨⟨congrArg (fun z : AlP => z.1.1.1) e, congrArg (fun z : AlP => z.1.1.2) e⟩, (congrArg (fun z : AlP => z.1.2) e : _ = ts.map fun t => some (He.keysIn w.params t.2))⟩, congrArg (fun z : AlP => z.2) e⟩
  keeps := fun _ _ _ ⟨K, hK, c⟩ k => ⟨K, PySem.W.Frag.In.keeps hK k, c⟩
end FL
namespace FL
variable [HW]
open PySem PySem.Spec L2
/-! ### x = [.. for .. for ..] on one line -/
section
variable {X : Cx} {elt tg iter : Expr} {ifs : List Expr} {cs : List Comprehension} {scope : Scope} {own : List (Str × Nat)} {pos : Pos} {te : TE}
end
section
variable {X : Cx} {O : List Nat} {tg iter elt : Expr} {scope : Scope} {own : List (Str × Nat)} {pos : Pos} {cs : List Comprehension} {ls : List Lv} {R : Env → Option (List D)}
end
end FL
namespace FL
variable [HW]
open PySem PySem.Spec PyProof.Rows L2
/-! ### list(o), o an object of our own with __len__ whose __iter__ returns a tuple's iterator -/
section
variable {X : Cx} {pins : List (Addr × Obj)} {σ : L2.St} {c g : Str} {j k : Nat} {mir : List D → Option D}
def rOwnT (c g : Str) (K : PySem.W.Frag) (mir : List D → Option D) : List V → Hp → VK → Prop := fun xs H Q => ∃ (a dx t : Addr) (gs : List (Str × V)) (zs : List V) (R : Addr → Hp → Prop), xs = [.ref a] ∧ H a = some (.ins (He.ga K c) dx gs) ∧ gs.lookup g = some (.ref t) ∧ SqT K H t zs ∧ zs.length < sizeLine ∧
  (∀ q it, H q = none → H it = none → q ≠ it → spF K false 1 mir [.ref a] (upd (upd H q (.lst [])) it (TiO t it)) (fun z H' => ∃ n : Int, z = .int n ∧ 0 ≤ n ∧ n ≤ 1000 ∧ H' q = some (.lst []) ∧ H' it = some (TiO t it) ∧ SqT K H' t zs ∧ R q (upd (ItX.dropH H' it) q (.lst zs))) (fun _ _ _ => False)) ∧
  ∀ q H', H q = none → H' q = some (.lst zs) → R q H' → Q (.ref q) H'
def listOwnD (c g : Str) (mir : List D → Option D) : List D → Option D
  | [d] => (match fldD c g d with
    | some (.tup xs) => (match mir [d] with
      | some (.int n) => if 0 ≤ n ∧ n ≤ 1000 ∧ xs.length < 1000 then some (.lst xs) else none
      | _ => none)
    | _ => none)
  | _ => none
end
end FL
namespace FL
variable [HW]
open PySem PySem.Spec L2
/-! ### C(e, .., k = v), __init__ with keyword-only parameters -/
structure CalCd (P : Program) (w : World) (K : PySem.W.Frag) (mg : Str → Option Value) (base : Heap) (k : Nat) (c : Str) (fs : List Str) (n : Nat) (mi : List D → Option (List D)) (df : List D) : Prop where
  ok : ∃ (f : Addr) (fd : FuncData) (ps : List Str) (ds : List Value) (dvs : List V), FnOk P w K mg base CX0 k f fd ps (spI K c fs n mi) ∧ Mk K (He.ga K c) f ∧ mg c = some (.ref (He.ga K c)) ∧ Binds K fd ps ds ∧ Vals dvs ds ∧ ∀ φ H, RpAll K φ H df dvs
structure CalCk (P : Program) (w : World) (K : PySem.W.Frag) (mg : Str → Option Value) (base : Heap) (k : Nat) (c : Str) (fs : List Str) (n : Nat) (mi : List D → Option (List D)) (n0 : Nat) (ks : List Str) : Prop where
  ok : ∃ (f : Addr) (fd : FuncData) (ps : List Str) (g : List Value → List Value → List Value), FnOk P w K mg base CX0 k f fd ps (spI K c fs n mi) ∧ Mk K (He.ga K c) f ∧ mg c = some (.ref (He.ga K c)) ∧ KBn K fd ps (n0 + 1) ks g (fun vs zs => vs ++ zs)
section
variable {P : Program} {w : World} {K : PySem.W.Frag} {mg : Str → Option Value} {base : Heap} {k : Nat} {ps N : List Str} {q c : Str} {st : Stmt} {steps : List (Str × (Env → Option D))}
end
section
variable {X : Cx} {O : List Nat} {e : Expr} {es : List Expr} {kws : List Keyword} {c : Str} {p pos : Pos} {Fs Gs : Env → Option (List D)} {k j n n0 nk : Nat} {fs ks : List Str} {mi : List D → Option (List D)} {df : List D}
def eMkD (c : Str) (fs : List Str) (n : Nat) (mi : List D → Option (List D)) (df : List D) (Fs : Env → Option (List D)) : Env → Option D := fun ρ => match Fs ρ with
  | some ds => if (ds ++ df).length = n then (match mi (ds ++ df) with | some xs => some (.ins c fs xs) | none => none) else none
  | none => none
end
/-! ### [x] * n -/
def repD (x y : D) : Option D := match x, y with
  | .lst xs, .int k => if 0 ≤ k ∧ k < 1073741824 ∧ xs.length * k.toNat ≤ sizeLine then some (.lst (List.replicate k.toNat xs).flatten) else none
  | _, _ => none
end FL
namespace FL
variable [HW]
open PySem PySem.Spec L2
/-! ### a walk over a list or a tuple -/
def isSeq : D → Bool | .tup _ => true | d => isLst d
section
variable {X : Cx} {O : List Nat} {tg e : Expr} {F : Env → Option D}
theorem fib_seq (h : FE X O e F) : FIB X O tg e (iSeq isSeq F) := by
  intro φ Hf0 H0 ρ σ Hf H ds R S hF k
  obtain ⟨d, h1, h2, h3⟩ := iSeq_some hF
  cases d with
  | tup xs =>
    refine fib_of (fi_tup h) φ Hf0 H0 ρ σ Hf H ds R S ?_ k
    unfold iSeq
    rw [h1]
    exact h3
  | lst xs =>
    refine fib_list (fb_of h) φ Hf0 H0 ρ σ Hf H ds R S ?_ k
    unfold iSeq
    rw [h1]
    exact h3
  | klst xs =>
    refine fib_list (fb_of h) φ Hf0 H0 ρ σ Hf H ds R S ?_ k
    unfold iSeq
    rw [h1]
    exact h3
  | _ => cases h3
end
/-! ### enumerate over what a look gives -/
def jEnum (M1 : Env → List Ob → Option (D × List Ob)) : Env → List Ob → Option (List D × List Ob) := fun ρ S => match M1 ρ S with | some (d, S') => if isLst d = true then (match seqD d with | some ds => some (enumL 0 ds, S') | none => none) else none | none => none
section
variable {X : Cx} {O O' O1 : List Nat} {tg e o ix : Expr} {es : List Expr} {p pos : Pos} {M1 : Env → List Ob → Option (D × List Ob)} {A1 : Env → List Ob → Option (List D × List Ob)} {Fi : Env → Option D}
/-! ### del o[i], o gives a list that changes -/
def mDelE (M0 : Env → List Ob → Option (D × List Ob)) (Fi : Env → Option D) : Env → List Ob → Option MOut := fun ρ S => match M0 ρ S with
  | some (.obj t, S0) => (match Fi ρ with
    | some (.int z) => (match S0[t]? with
      | some o => if o.k = .lst ∧ -(2 ^ 63) ≤ z ∧ z < 2 ^ 63 then (match ixN o.xs.length z with | some j => some (.nx ρ (setL S0 t (o.xs.eraseIdx j))) | none => none) else none
      | none => none)
    | _ => none)
  | _ => none
/-! ### xs.pop(i) as a value -/
def mPopV (i : Nat) (Fi : Env → Option D) : Env → List Ob → Option (D × List Ob) := fun ρ S => match ρ[i]? with
  | some (some (.obj t)) => (match Fi ρ with
    | some (.int z) => (match S[t]? with
      | some o => if o.k = .lst ∧ -(2 ^ 63) ≤ z ∧ z < 2 ^ 63 then (match ixN o.xs.length z with | some j => (match o.xs[j]? with | some d => some (d, setL S t (o.xs.eraseIdx j)) | none => none) | none => none) else none
      | none => none)
    | _ => none)
  | _ => none
/-! ### o(..), the class of o has __call__ -/
end
structure CalO (P : Program) (w : World) (K : PySem.W.Frag) (mg : Str → Option Value) (base : Heap) (k : Nat) (c : Str) (n : Nat) (mir : List D → List Ob → Option (D × List Ob)) : Prop where
  ok : ∃ (f : Addr) (fd : FuncData) (ps : List Str), FnOk P w K mg base CX0 k f fd ps (spE K n mir) ∧ StX.CallO K (He.ga K c) f ∧ Binds K fd ps []
section
variable {P : Program} {w : World} {K : PySem.W.Frag} {mg : Str → Option Value} {base : Heap} {k : Nat} {ps N : List Str} {q c : Str} {st : Stmt} {G : Env → List Ob → Option MOut} {kws : List (Str × V)}
end
def mCallO (c : Str) (n : Nat) (mir : List D → List Ob → Option (D × List Ob)) (M0 : Env → List Ob → Option (D × List Ob)) (A : Env → List Ob → Option (List D × List Ob)) : Env → List Ob → Option (D × List Ob) := fun ρ S => match M0 ρ S with
  | some (.obj i, S0) => (match A ρ S0 with
    | some (ds, S1) => (match S1[i]? with
      | some o => if o.k = .ins ∧ o.c = c ∧ ds.length + 1 = n then mir (.obj i :: ds) S1 else none
      | none => none)
    | none => none)
  | _ => none
section
variable {X : Cx} {O : List Nat} {e fe : Expr} {es : List Expr} {c : Str} {pos : Pos} {A1 : Env → List Ob → Option (List D × List Ob)} {M0 : Env → List Ob → Option (D × List Ob)} {k j n : Nat} {mir : List D → List Ob → Option (D × List Ob)}
end
/-! ### a default that is a tuple -/
def dfB (K : PySem.W.Frag) (c : Str) (i : Nat) (d : D) : Bool := cB K d (.ref (He.dflAt (c, some "__init__") i K))
theorem df_ok {K : PySem.W.Frag} {c : Str} {i : Nat} {d : D} (h : dfB K c i d = true) : ∀ φ H, Rp K φ H d (V.ref (He.dflAt (c, some "__init__") i K)) := by
  obtain ⟨v, r1, r2⟩ := cB_ok h
  cases v with
  | ref a => cases r1; exact r2
  | _ => first | (cases r1; done) | (obtain ⟨_, r1⟩ := r1; cases r1)
/-! ### list(xs), xs a list that changes -/
def mListO (i : Nat) : Env → List Ob → Option (D × List Ob) := fun ρ S => match ρ[i]? with
  | some (some (.obj t)) => (match S[t]? with | some o => if o.k = .lst then some (.obj S.length, S ++ [⟨.lst, "", [], o.xs⟩]) else none | none => none)
  | _ => none
section
variable {X : Cx} {O : List Nat} {p xpos pos : Pos}
end
end FL
namespace FL
variable [HW]
open PySem PySem.Spec L2
/-! ### C.m(..), m a staticmethod -/
structure SFn (K : PySem.W.Frag) (C : Addr) (m : Str) (f : Addr) : Prop where
  rd : PySem.W.readsIn K C (.type "type") = true
  ga : PySem.W.specialIn K (.ref C) "__getattribute__" = some (some (.builtin "type.__getattribute__"))
  at_ : ∃ p rest, PySem.W.findCls K (.ref C) (.type "type") m = some (.get (.builtin "staticmethod.__get__") (.ref p) .none (.ref C)) ∧ PySem.W.recIn K p "staticmethod" = some (.ref f :: rest)
  kp : PySem.W.keepIn K (.ref f) = true
def smB (K : PySem.W.Frag) (c m : Str) : Bool :=
  PySem.W.readsIn K (He.ga K c) (.type "type") && (He.eqO (PySem.W.specialIn K (.ref (He.ga K c)) "__getattribute__") (some (some (.builtin "type.__getattribute__"))) &&
    ((match PySem.W.findCls K (.ref (He.ga K c)) (.type "type") m with | some (.get (.builtin g) (.ref p) .none (.ref C)) => decide (g = "staticmethod.__get__") && (decide (C = He.ga K c) && (match PySem.W.recIn K p "staticmethod" with | some (.ref f :: _) => decide (f = pAd K (He.ga K c) m) | _ => false)) | _ => false) &&
    PySem.W.keepIn K (.ref (pAd K (He.ga K c) m))))
section
variable {X : Cx} {O : List Nat} {e o : Expr} {es : List Expr} {c m : Str} {p pos apos : Pos} {C fa : Addr} {CX : CXT} {k j n : Nat} {fd : FuncData} {ps : List Str} {sp : Sp} {E : XK} {ta : TE} {t : TA} {Fs : Env → Option (List D)} {mir : List D → Option D}
structure CalSF (P : Program) (w : World) (K : PySem.W.Frag) (mg : Str → Option Value) (base : Heap) (k : Nat) (c m : Str) (n : Nat) (mir : List D → Option D) : Prop where
  ok : ∃ (f : Addr) (fd : FuncData) (ps : List Str), FnOk P w K mg base CX0 k f fd ps (spF K false n mir) ∧ mg c = some (.ref (He.ga K c)) ∧ SFn K (He.ga K c) m f ∧ Binds K fd ps []
end
section
variable {P : Program} {w : World} {K : PySem.W.Frag} {mg : Str → Option Value} {base : Heap} {k : Nat} {ps N : List Str} {q c m : Str} {st : Stmt} {Gp : Env → Option Out}
end
end FL
namespace FL
variable [HW]
open PySem PySem.Spec L2
/-! ### a walk over an own object, a list or a tuple -/
def iOwnSeq (c g : Str) (F : Env → Option D) : Env → Option (List D) := fun ρ => match F ρ with | some (.ins _ _ _) => iOwn c g F ρ | _ => iSeq isSeq F ρ
end FL
namespace FL
variable [HW]
open PySem PySem.Spec L2 PyProof.Rows

/-! ### dicts whose keys are tuples of bools, ints, None -/
theorem dk_addr {P : Program} {w : World} [WW w] {H : Hp} {h : Heap} {a a' : Addr} {es : List DictEntry} (x : ObjOk P w H h a (dkO a' es)) : a' = a := by
  obtain ⟨⟨hs, o, ep, ho, hc, hd⟩, _, st⟩ := x
  by_cases e : a' = a
  · exact e
  · exfalso
    have q := st h (h.update a' (fun _ => { cls := .type "list", dict := none, data := .seq #[] 0, slots := #[] })) ⟨hs, o, ep, ho, hc, hd⟩ (fun ob q => (Heap.get?_update_other _ _ e).trans q)
    obtain ⟨_, o2, ep2, ho2, _, hd2⟩ := q
    rw [Heap.get?_update_self _ ho rfl] at ho2
    cases ho2
    cases hd2
def kget {α : Type} (k : NestedKey) : List NestedKey → List α → Option α
  | n :: ns, x :: xs => if NestedKey.beq n k = true then some x else kget k ns xs
  | _, _ => none
def khas (k : NestedKey) : List NestedKey → Bool
  | [] => false
  | n :: ns => NestedKey.beq n k || khas k ns
def krpl {α : Type} (k : NestedKey) (x : α) : List NestedKey → List α → List α
  | n :: ns, y :: ys => if NestedKey.beq n k = true then x :: ys else y :: krpl k x ns ys
  | _, ys => ys
def kput {α : Type} (k : NestedKey) (ns : List NestedKey) (b : α) (as : List α) : List α := if khas k ns = true then as else as ++ [b]
def kputX {α : Type} (k : NestedKey) (x : α) (ns : List NestedKey) (xs : List α) : List α := if khas k ns = true then krpl k x ns xs else xs ++ [x]
theorem krpl_len {α : Type} (k : NestedKey) (x : α) : ∀ (ns : List NestedKey) (xs : List α), (krpl k x ns xs).length = xs.length
  | [], xs => by unfold krpl; rfl
  | _ :: _, [] => by unfold krpl; rfl
  | n :: ns, y :: ys => by
    unfold krpl
    split
    · rfl
    · simp [krpl_len k x ns ys]
theorem kputX_len {α β : Type} (k : NestedKey) (x : α) (b : β) (ns : List NestedKey) (xs : List α) (as : List β) (h : as.length = xs.length) : (kput k ns b as).length = (kputX k x ns xs).length := by
  unfold kput kputX
  split
  · rw [krpl_len]; exact h
  · simp [h]
section
variable {K : PySem.W.Frag} {φ : Nat → Option Addr} {H : Hp}
theorem RpAll.kget (k : NestedKey) : ∀ (ns : List NestedKey) {xs : List D} {vs : List V}, RpAll K φ H xs vs → (∀ d, FL.kget k ns xs = some d → ∃ v, FL.kget k ns vs = some v ∧ Rp K φ H d v) ∧ (FL.kget k ns xs = none → FL.kget k ns vs = none)
  | [], _, _, r => ⟨fun d e => (by unfold FL.kget at e; cases e), fun _ => by unfold FL.kget; rfl⟩
  | n :: ns, _, _, .nil => ⟨fun d e => (by unfold FL.kget at e; cases e), fun _ => by unfold FL.kget; rfl⟩
  | n :: ns, _, _, .cons q t => by
    have ih := RpAll.kget k ns t
    unfold FL.kget
    split
    · exact ⟨fun d e => by cases e; exact ⟨_, rfl, q⟩, fun e => by cases e⟩
    · exact ih
theorem RpAll.krpl {k : NestedKey} {d : D} {v : V} (q : Rp K φ H d v) : ∀ (ns : List NestedKey) {xs : List D} {vs : List V}, RpAll K φ H xs vs → RpAll K φ H (FL.krpl k d ns xs) (FL.krpl k v ns vs)
  | [], _, _, r => by unfold FL.krpl; exact r
  | n :: ns, _, _, .nil => by unfold FL.krpl; exact .nil
  | n :: ns, _, _, .cons q0 t => by
    unfold FL.krpl
    split
    · exact .cons q t
    · exact .cons q0 (RpAll.krpl q ns t)
theorem RpAll.kputX {k : NestedKey} {d : D} {v : V} (q : Rp K φ H d v) {ns : List NestedKey} {xs : List D} {vs : List V} (r : RpAll K φ H xs vs) : RpAll K φ H (FL.kputX k d ns xs) (FL.kputX k v ns vs) := by
  unfold FL.kputX
  split
  · exact RpAll.krpl q ns r
  · exact r.append (.one q)
end
theorem Vals.kget (k : NestedKey) : ∀ (ns : List NestedKey) {vs : List V} {us : List Value}, Vals vs us → (∀ v, FL.kget k ns vs = some v → ∃ u, FL.kget k ns us = some u ∧ RelV v u) ∧ (FL.kget k ns vs = none → FL.kget k ns us = none)
  | [], _, _, r => ⟨fun d e => (by unfold FL.kget at e; cases e), fun _ => by unfold FL.kget; rfl⟩
  | n :: ns, _, _, .nil => ⟨fun d e => (by unfold FL.kget at e; cases e), fun _ => by unfold FL.kget; rfl⟩
  | n :: ns, _, _, .cons q t => by
    have ih := Vals.kget k ns t
    unfold FL.kget
    split
    · exact ⟨fun d e => by cases e; exact ⟨_, rfl, q⟩, fun e => by cases e⟩
    · exact ih
theorem Vals.krpl {k : NestedKey} {v : V} {u : Value} (q : RelV v u) : ∀ (ns : List NestedKey) {vs : List V} {us : List Value}, Vals vs us → Vals (FL.krpl k v ns vs) (FL.krpl k u ns us)
  | [], _, _, r => by unfold FL.krpl; exact r
  | n :: ns, _, _, .nil => by unfold FL.krpl; exact .nil
  | n :: ns, _, _, .cons q0 t => by
    unfold FL.krpl
    split
    · exact .cons q t
    · exact .cons q0 (Vals.krpl q ns t)
theorem Vals.kputX {k : NestedKey} {v : V} {u : Value} (q : RelV v u) {ns : List NestedKey} {vs : List V} {us : List Value} (r : Vals vs us) : Vals (FL.kputX k v ns vs) (FL.kputX k u ns us) := by
  unfold FL.kputX
  split
  · exact Vals.krpl q ns r
  · exact r.append (.cons q .nil)
/-! keys -/
section
variable {X : Cx} [WW X.w] {pins : List (Addr × Obj)} {σ : L2.St} {H : Hp} {s : Shared} {φ : Nat → Option Addr}
mutual
theorem nq_is (I : Inv X pins σ H s) : ∀ {d : D} {v : V} {u : Value} {k : NestedKey}, nq d = some k → Rp X.K φ H d v → RelV v u → NestedIs s.heap k u
  | .non, _, _, _, h, .non, r => by cases h; cases r; exact .none
  | .bl b, _, _, _, h, .bl _, r => by cases h; cases r; exact .bool rfl
  | .int i, _, _, _, h, .int _, r => by
    cases h
    obtain ⟨t, rfl⟩ := r
    exact .int i t
  | .str x, _, _, _, h, .str _, r => by
    cases h
    obtain ⟨t, rfl⟩ := r
    exact .text x t
  | .tup ds, _, _, _, h, .tup (a := a) (vs := vs) q t, r => by
    unfold nq at h
    split at h
    · rename_i ks hk
      cases h
      cases r
      obtain ⟨its, rv, ⟨o, h1, h2, n, h3⟩, hz⟩ := I.tuple q
      exact .tup h1 h2 h3 (nqAll_is I hk t rv)
    · cases h
  | .lst _, _, _, _, h, _, _ => by cases h
  | .klst _, _, _, _, h, _, _ => by cases h
  | .obj _, _, _, _, h, _, _ => by cases h
  | .ins _ _ _, _, _, _, h, _, _ => by cases h
  | .dct _ _, _, _, _, h, _, _ => by cases h
  | .dkt _ _ _, _, _, _, h, _, _ => by cases h
  | .xtp _, _, _, _, h, _, _ => by cases h
theorem nqAll_is (I : Inv X pins σ H s) : ∀ {ds : List D} {vs : List V} {us : List Value} {ks : List NestedKey}, nqAll ds = some ks → RpAll X.K φ H ds vs → Vals vs us → NestedAll s.heap ks us
  | [], _, _, _, h, .nil, r => by cases h; cases r; exact .nil
  | d :: ds, _, _, _, h, .cons q t, .cons r rs => by
    unfold nqAll at h
    split at h
    · rename_i k hk
      split at h
      · rename_i ks hks
        cases h
        exact .cons (nq_is I hk q r) (nqAll_is I hks t rs)
      · cases h
    · cases h
end
end
mutual
theorem nq_hash (w : World) [WW w] : ∀ {d : D} {k : NestedKey}, nq d = some k → k.hash w = hsh k
  | .non, _, h => by cases h; rfl
  | .bl b, _, h => by cases h; rfl
  | .int i, _, h => by cases h; rfl
  | .tup ds, _, h => by
    unfold nq at h
    split at h
    · rename_i ks hk
      cases h
      unfold NestedKey.hash hsh
      rw [nqAll_hash w hk]
    · cases h
  | .str x, _, h => by
    cases h
    unfold NestedKey.hash hsh
    exact WW.ok x
  | .lst _, _, h => by cases h
  | .klst _, _, h => by cases h
  | .obj _, _, h => by cases h
  | .ins _ _ _, _, h => by cases h
  | .dct _ _, _, h => by cases h
  | .dkt _ _ _, _, h => by cases h
  | .xtp _, _, h => by cases h
theorem nqAll_hash (w : World) [WW w] : ∀ {ds : List D} {ks : List NestedKey}, nqAll ds = some ks → NestedKey.hashes w ks = hshs ks
  | [], _, h => by cases h; rfl
  | d :: ds, _, h => by
    unfold nqAll at h
    split at h
    · rename_i k hk
      split at h
      · rename_i ks hks
        cases h
        unfold NestedKey.hashes hshs
        rw [nq_hash w hk, nqAll_hash w hks]
      · cases h
    · cases h
end
theorem nqAll_len : ∀ {ds : List D} {ks : List NestedKey}, nqAll ds = some ks → ks.length = ds.length
  | [], _, h => by cases h; rfl
  | d :: ds, _, h => by
    unfold nqAll at h
    split at h
    · split at h
      · rename_i ks hks
        cases h
        simp [nqAll_len hks]
      · cases h
    · cases h
theorem nqAll_snoc {d : D} {k : NestedKey} (h1 : nq d = some k) : ∀ {ds : List D} {ks : List NestedKey}, nqAll ds = some ks → nqAll (ds ++ [d]) = some (ks ++ [k])
  | [], _, h => by cases h; show nqAll [d] = _; unfold nqAll; rw [h1]; rfl
  | e :: ds, _, h => by
    unfold nqAll at h
    split at h
    · rename_i k' hk
      split at h
      · rename_i ks hks
        cases h
        show nqAll (e :: (ds ++ [d])) = _
        unfold nqAll
        rw [hk, nqAll_snoc h1 hks]
        rfl
      · cases h
    · cases h
def z3 : List NestedKey → List Addr → List Value → List (NestedKey × Addr × Value)
  | n :: ns, a :: as, u :: us => (n, a, u) :: z3 ns as us
  | _, _, _ => []
theorem kents_z3 {P : Program} {w : World} [WW w] : ∀ {ns : List NestedKey} {as : List Addr} {us : List Value}, NestedKey.hashes w ns = hshs ns → kents ns as us = (z3 ns as us).map (entryOfKey (nestedKind P w))
  | [], _, _, _ => by unfold kents z3; rfl
  | n :: ns, [], _, _ => by unfold kents z3; rfl
  | n :: ns, a :: as, [], _ => by unfold kents z3; rfl
  | n :: ns, a :: as, u :: us, h => by
    unfold NestedKey.hashes hshs at h
    injection h with h1 h2
    unfold kents z3
    rw [List.map_cons, ← kents_z3 h2]
    congr 1
    show DictEntry.mk (hsh n) (.ref a) u = DictEntry.mk (NestedKey.hash w n) (.ref a) u
    rw [h1]
theorem z3_keys : ∀ {ns : List NestedKey} {as : List Addr} {us : List Value}, ns.length = as.length → ns.length = us.length → (z3 ns as us).map (·.1) = ns
  | [], _, _, _, _ => by unfold z3; rfl
  | n :: ns, [], _, h, _ => by simp at h
  | n :: ns, a :: as, [], _, h => by simp at h
  | n :: ns, a :: as, u :: us, h1, h2 => by
    unfold z3
    rw [List.map_cons, z3_keys (by simpa using h1) (by simpa using h2)]
theorem khas_mem (k : NestedKey) : ∀ ns : List NestedKey, khas k ns = true ↔ k ∈ ns
  | [] => by simp [khas]
  | n :: ns => by
    unfold khas
    rw [Bool.or_eq_true, khas_mem k ns, ← NestedKey.decide_eq, decide_eq_true_eq, List.mem_cons]
    exact ⟨fun h => h.imp Eq.symm id, fun h => h.imp Eq.symm id⟩
theorem kput_nodup {k : NestedKey} {ns : List NestedKey} (nd : ns.Nodup) : (kput k ns k ns).Nodup := by
  unfold kput
  split
  · exact nd
  · rename_i h
    rw [List.nodup_append]
    exact ⟨nd, by simp, fun y hy z hz => by
      have hz' : z = k := by simpa using hz
      subst hz'
      rintro rfl
      exact h ((khas_mem _ _).mpr hy)⟩
theorem depthAll_snoc : ∀ (ns : List NestedKey) (k : NestedKey), NestedKey.depthAll ns ≤ 8 → k.depth ≤ 8 → NestedKey.depthAll (ns ++ [k]) ≤ 8
  | [], k, _, h => by show NestedKey.depthAll [k] ≤ 8; unfold NestedKey.depthAll NestedKey.depthAll; omega
  | n :: ns, k, h1, h2 => by
    unfold NestedKey.depthAll at h1
    show NestedKey.depthAll (n :: (ns ++ [k])) ≤ 8
    unfold NestedKey.depthAll
    have := depthAll_snoc ns k (by omega) h2
    omega
theorem depth_mem : ∀ {ns : List NestedKey} {k : NestedKey}, k ∈ ns → NestedKey.depthAll ns ≤ 8 → k.depth ≤ 8
  | n :: ns, k, h, hd => by
    unfold NestedKey.depthAll at hd
    rcases List.mem_cons.mp h with rfl | h
    · omega
    · exact depth_mem h (by omega)
structure DkO (K : PySem.W.Frag) (H : Hp) (x : Option HO) (ns : List NestedKey) (as : List Addr) (vs : List V) (us : List Value) : Prop where
  at_ : ∃ a', x = some (dkO a' (kents ns as us)) ∨ ∃ o, x = some (.frz o (dkO a' (kents ns as us)))
  keys : ∃ φ ks, nqAll ks = some ns ∧ RpAll K φ H ks (as.map V.ref)
  nd : ns.Nodup
  dp : NestedKey.depthAll ns ≤ 8
  len : ns.length ≤ 1000000
  lv : ns.length = vs.length
  rv : Vals vs us
structure KyO (K : PySem.W.Frag) (H : Hp) (k : NestedKey) (b : Addr) : Prop where
  dp : k.depth ≤ 8
  at_ : ∃ φ d, nq d = some k ∧ Rp K φ H d (.ref b)
section
variable {X : Cx} [WW X.w] {pins : List (Addr × Obj)} {σ : L2.St} {H : Hp} {s : Shared} {a b : Addr} {ns : List NestedKey} {as : List Addr} {vs : List V} {us : List Value} {k : NestedKey}
theorem KyO.is (I : Inv X pins σ H s) (h : KyO X.K H k b) : (nestedKind X.prog X.w).is s.heap k b := by
  obtain ⟨φ, d, h1, h2⟩ := h.at_
  exact ⟨nq_is I h1 h2 rfl, h.dp⟩
theorem DkO.la {K : PySem.W.Frag} {x : Option HO} (h : DkO K H x ns as vs us) : ns.length = as.length := by
  obtain ⟨φ, ks, h1, h2⟩ := h.keys
  rw [nqAll_len h1, h2.length, List.length_map]
theorem DkO.lu {K : PySem.W.Frag} {x : Option HO} (h : DkO K H x ns as vs us) : ns.length = us.length := h.lv.trans h.rv.length
theorem nested_mem {h : Heap} : ∀ {ns : List NestedKey} {as : List Addr} {us : List Value}, NestedAll h ns (as.map Value.ref) → ∀ x ∈ z3 ns as us, NestedIs h x.1 (.ref x.2.1)
  | [], _, _, _, x, hx => by unfold z3 at hx; cases hx
  | n :: ns, [], _, _, x, hx => by unfold z3 at hx; cases hx
  | n :: ns, a :: as, [], _, x, hx => by unfold z3 at hx; cases hx
  | n :: ns, a :: as, u :: us, q, x, hx => by
    cases q with
    | cons q1 q2 =>
      unfold z3 at hx
      rcases List.mem_cons.mp hx with rfl | hx
      · exact q1
      · exact nested_mem q2 x hx
theorem z3_mem {x : NestedKey × Addr × Value} : ∀ {ns : List NestedKey} {as : List Addr} {us : List Value}, x ∈ z3 ns as us → x.1 ∈ ns
  | [], _, _, h => by unfold z3 at h; cases h
  | n :: ns, [], _, h => by unfold z3 at h; cases h
  | n :: ns, a :: as, [], h => by unfold z3 at h; cases h
  | n :: ns, a :: as, u :: us, h => by
    unfold z3 at h
    rcases List.mem_cons.mp h with rfl | h
    · exact List.mem_cons_self
    · exact List.mem_cons_of_mem _ (z3_mem h)
theorem vals_ref : ∀ as : List Addr, Vals (as.map V.ref) (as.map Value.ref)
  | [] => .nil
  | _ :: as => .cons rfl (vals_ref as)
theorem DkO.of (I : Inv X pins σ H s) (h : DkO X.K H (H a) ns as vs us) : (a == sysModules) = false ∧ s.heap.DictOfH (nestedKind X.prog X.w) a (z3 ns as us) ∧ ∃ o ep, s.heap.get? a = some o ∧ o.ExactDict ∧ o.data = .dict (kents ns as us).toArray ep := by
  obtain ⟨φ, ks, h1, h2⟩ := h.keys
  have ok : ∃ a', ObjOk X.prog X.w H s.heap a (dkO a' (kents ns as us)) := by
    obtain ⟨a', e | ⟨o, e⟩⟩ := h.at_
    · exact ⟨a', I.hok _ _ e⟩
    · exact ⟨a', (I.hok _ _ e).2⟩
  obtain ⟨a', ok⟩ := ok
  have ea := dk_addr ok
  subst ea
  obtain ⟨⟨hs, o, ep, ho, hc, hd⟩, _, _⟩ := ok
  refine ⟨hs, ⟨o, _, ep, ho, hc, hd, ?_, fun x hx => ⟨nested_mem (nqAll_is I h1 h2 (vals_ref as)) x hx, depth_mem (z3_mem hx) h.dp⟩, ?_⟩, o, ep, ho, hc, hd⟩
  · rw [List.toList_toArray]; exact kents_z3 (nqAll_hash _ h1)
  · rw [z3_keys h.la h.lu]; exact h.nd
end
end FL
namespace FL
variable [HW]
open PySem PySem.Spec L2 PyProof.Rows

/-! ### reading -/
def keyD : D → Option NestedKey
  | .tup ds => (match nq (.tup ds) with | some k => if k.depth ≤ 8 then some k else none | none => none)
  | _ => none
theorem Rp.open {K : PySem.W.Frag} {φ : Nat → Option Addr} {Hf H : Hp} {fz : Bool} {ks ds : List D} {v : V} (s : Same Hf H) (r : Rp K φ Hf (.dkt fz ks ds) v) : ∃ a ns as vs us, v = .ref a ∧ DkO K H (H a) ns as vs us ∧ nqAll ks = some ns ∧ RpAll K φ Hf ds vs ∧ RpAll K φ Hf ks (as.map V.ref) ∧ (fz = true → ∃ o a', Hf a = some (.frz o (dkO a' (kents ns as us)))) := by
  cases r with
  | dkt e h1 h2 h3 h4 h5 h6 h7 h8 =>
    refine ⟨_, _, _, _, _, rfl, ⟨?_, ⟨φ, _, h1, h7.mono s⟩, h2, h3, by rw [nqAll_len h1]; exact h5, by rw [nqAll_len h1, h4, h8.length], h6⟩, h1, h8, h7, ?_⟩
    · cases fz with
      | true => obtain ⟨o, e⟩ := e; exact ⟨_, .inr ⟨o, s _ _ e⟩⟩
      | false =>
        rcases e with e | ⟨o, e⟩
        · exact ⟨_, .inl (s _ _ e)⟩
        · exact ⟨_, .inr ⟨o, s _ _ e⟩⟩
    · intro z
      subst z
      obtain ⟨o, e⟩ := e
      exact ⟨o, _, e⟩
theorem DkO.mono {K : PySem.W.Frag} {H H' : Hp} {a : Addr} {ns : List NestedKey} {as : List Addr} {vs : List V} {us : List Value} (s : Same H H') (h : DkO K H (H a) ns as vs us) : DkO K H' (H' a) ns as vs us := by
  obtain ⟨⟨a', e⟩, ⟨φ, ks, k1, k2⟩, r⟩ := h
  exact ⟨⟨a', e.imp (s _ _) fun ⟨o, e⟩ => ⟨o, s _ _ e⟩⟩, ⟨φ, ks, k1, k2.mono s⟩, r, ‹_›, ‹_›, ‹_›, ‹_›⟩
section
variable {X : Cx} [WW X.w] {pins : List (Addr × Obj)} {σ : L2.St} {H : Hp} {s : Shared} {a b : Addr} {ns : List NestedKey} {as : List Addr} {vs : List V} {us : List Value} {k : NestedKey} {A : Around} {E : Value → Shared → Prop}
end
def tKGet (K : PySem.W.Frag) (td ty : TE) : TE := fun σ H Q => td σ H fun x H1 => ty σ H1 fun y H2 => ∃ a b ns as vs us k v, x = .ref a ∧ y = .ref b ∧ DkO K H2 (H2 a) ns as vs us ∧ KyO K H2 k b ∧ kget k ns vs = some v ∧ Q v H2
def tKGet2 (K : PySem.W.Frag) (td ty tx : TE) : TE := fun σ H Q => td σ H fun x H1 => ∃ a ns0 as0 vs0 us0, x = .ref a ∧ DkO K H1 (H1 a) ns0 as0 vs0 us0 ∧ ty σ H1 fun y H2 => tx σ H2 fun z H3 => ∃ b ns as vs us k, y = .ref b ∧ DkO K H3 (H3 a) ns as vs us ∧ KyO K H3 k b ∧ Q ((kget k ns vs).getD z) H3
def tKIn (K : PySem.W.Frag) (neg : Bool) (ty td : TE) : TE := fun σ H Q => ty σ H fun y H1 => td σ H1 fun x H2 => ∃ a b ns as vs us k, x = .ref a ∧ y = .ref b ∧ DkO K H2 (H2 a) ns as vs us ∧ KyO K H2 k b ∧ Q (.bl (if neg then !khas k ns else khas k ns)) H2
section
variable {X : Cx} [WW X.w] {o i e f : Expr} {pos apos cpos : Pos} {td ty tx : TE}
def tKTru (K : PySem.W.Frag) (td : TE) : TT := fun σ H Q => td σ H fun x H1 => ∃ a ns as vs us, x = .ref a ∧ DkO K H1 (H1 a) ns as vs us ∧ Q (!ns.isEmpty) H1
end
/-! as data -/
def dkGet (x y : D) : Option D := match x with
  | .dkt _ ks ds => (match nqAll ks with | some ns => (match keyD y with | some k => kget k ns ds | none => none) | none => none)
  | _ => none
def dkGet2 (x y z : D) : Option D := match x with
  | .dkt _ ks ds => (match nqAll ks with | some ns => (match keyD y with | some k => some ((kget k ns ds).getD z) | none => none) | none => none)
  | _ => none
def dkIn (neg : Bool) (y x : D) : Option D := match x with
  | .dkt _ ks ds => (match nqAll ks with | some ns => (match keyD y with | some k => some (.bl (if neg then !khas k ns else khas k ns)) | none => none) | none => none)
  | _ => none
def e3 (f : D → D → D → Option D) (F G E : Env → Option D) : Env → Option D := fun ρ => match F ρ with
  | some x => (match G ρ with | some y => (match E ρ with | some z => f x y z | none => none) | none => none)
  | none => none
section
variable {X : Cx} [WW X.w] {O : List Nat} {o i e f : Expr} {pos apos cpos : Pos} {F G E : Env → Option D}
def truK : D → Option Bool
  | .dkt _ ks _ => some (!ks.isEmpty)
  | _ => none
end
end FL
namespace FL
variable [HW]
open PySem PySem.Spec L2 PyProof.Rows

/-! ### walks over the entries -/
section
variable {X : Cx} [WW X.w] {pins : List (Addr × Obj)} {σ : L2.St} {H : Hp} {s : Shared} {d a' : Addr} {o : Obj} {es : List DictEntry}
end
def Itki (d : Addr) (o : Obj) (a' : Addr) (es : List DictEntry) (as : List Addr) (vs : List V) : It :=
  ⟨fun i H => H d = some (.frz o (dkO a' es)) ∧ i < es.length, fun i H x H' => ∃ T q v, as[i]? = some q ∧ vs[i]? = some v ∧ x = .ref T ∧ H T = none ∧ H' = upd H T (.tup [.ref q, v]), fun i H => H d = some (.frz o (dkO a' es)) ∧ es.length ≤ i⟩
def iKItems (K : PySem.W.Frag) (td : TE) : TI := fun σ H R => td σ H fun x H1 => ∃ d o a' ns as us vs, x = .ref d ∧ H1 d = some (.frz o (dkO a' (kents ns as us))) ∧ ns.length = as.length ∧ Vals vs us ∧ ns.length = vs.length ∧ R (Itki d o a' (kents ns as us) as vs) H1
section
variable {X : Cx} [WW X.w] {tg e : Expr} {td : TE} {apos cpos : Pos}
end
def kitD : List D → List D → List D
  | k :: ks, d :: ds => .tup [k, d] :: kitD ks ds
  | _, _ => []
def jKItems (M1 : Env → List Ob → Option (D × List Ob)) : Env → List Ob → Option (List D × List Ob) := fun ρ S => match M1 ρ S with
  | some (.dkt true ks ds, S') => some (kitD ks ds, S')
  | _ => none
section
variable {X : Cx} [WW X.w] {O : List Nat} {e : Expr} {apos cpos : Pos} {M1 : Env → List Ob → Option (D × List Ob)}
end
end FL
namespace FL
variable [HW]
open PySem PySem.Spec L2 PyProof.Rows

/-! ### new dicts, stores -/
def tKNew : TE := fun _ H Q => ∀ p, H p = none → Q (.ref p) (upd H p (dkO p []))
def tKDisp (K : PySem.W.Frag) (tk tv : TE) : TE := fun σ H Q => ∀ p, H p = none → tk σ (upd H p (dkO p [])) fun y H1 => tv σ H1 fun v H2 => ∃ b k, y = .ref b ∧ H2 p = some (dkO p []) ∧ KyO K H2 k b ∧ ∀ u, RelV v u → Q (.ref p) (upd H2 p (dkO p (kents [k] [b] [u])))
def sKPut (K : PySem.W.Frag) (td ty tv : TE) : TS := fun D σ H => tv σ H fun v H1 => td σ H1 fun x H2 => ty σ H2 fun y H3 => ∃ a b a' ns as vs us k, x = .ref a ∧ y = .ref b ∧ H3 a = some (dkO a' (kents ns as us)) ∧ DkO K H3 (H3 a) ns as vs us ∧ KyO K H3 k b ∧ ns.length < 1000000 ∧
  ∀ u, RelV v u → D.nx σ (upd H3 a (dkO a (kents (kput k ns k ns) (kput k ns b as) (kputX k u ns us))))
section
variable {X : Cx} [WW X.w] {pins : List (Addr × Obj)} {σ : L2.St} {H : Hp} {s : Shared} {a b a' : Addr} {ns : List NestedKey} {as : List Addr} {vs : List V} {us : List Value} {k : NestedKey} {A : Around} {E : Value → Shared → Prop}
end
section
variable {X : Cx} [WW X.w] {o i value kx vx : Expr} {pos pos' : Pos} {td ty tv tk : TE}
end
/-! fresh dicts -/
structure KNew (K : PySem.W.Frag) (φ : Nat → Option Addr) (Hf H : Hp) (a : Addr) (ks ds : List D) (ns : List NestedKey) (as : List Addr) (vs : List V) (us : List Value) : Prop where
  at_ : H a = some (dkO a (kents ns as us))
  nf : Hf a = none
  kn : nqAll ks = some ns
  nd : ns.Nodup
  dp : NestedKey.depthAll ns ≤ 8
  ll : ks.length = ds.length
  len : ks.length ≤ 1000000
  rv : Vals vs us
  rk : RpAll K φ Hf ks (as.map V.ref)
  rd : RpAll K φ Hf ds vs
def FDK (X : Cx) (O : List Nat) (e : Expr) (F : Env → Option D) : Prop :=
  ∀ (φ : Nat → Option Addr) (Hf0 H0 : Hp) (ρ : Env) (σ : L2.St) (Hf H : Hp) (d : D) (Q : VK), SR X.K φ Hf0 H0 O ρ σ Hf H → F ρ = some d →
    (∀ a ks ds ns as vs us Hf' H', d = .dkt false ks ds → Gr Hf H Hf' H' → H a = none → KNew X.K φ Hf' H' a ks ds ns as vs us → Q (.ref a) H') → wE X e σ H Q
def eFz (F : Env → Option D) : Env → Option D := fun ρ => match F ρ with | some (.dkt false ks ds) => some (.dkt true ks ds) | _ => none
section
variable {X : Cx} [WW X.w] {O : List Nat} {e kx vx : Expr} {F G : Env → Option D} {pos : Pos}
def eKD1 (F G : Env → Option D) : Env → Option D := fun ρ => match F ρ with
  | some y => (match keyD y with | some _ => (match G ρ with | some x => some (.dkt false [y] [x]) | none => none) | none => none)
  | none => none
def mDK (F : Env → Option D) : Env → List Ob → Option (D × List Ob) := fun ρ S => match F ρ with
  | some (.dkt false ks ds) => some (.obj S.length, S ++ [⟨.dkt, "", [], ks ++ ds⟩])
  | _ => none
def qLkK (F : Env → Option D) : Env → List Ob → Option (D × List Ob) := fun ρ S => match F (ρ.map (shE S)) with
  | some (.dkt false ks ds) => if (noInss ks && noInss ds) = true then some (.dkt true ks ds, S) else none
  | _ => none
end
end FL
namespace FL
variable [HW]
open PySem PySem.Spec L2 PyProof.Rows

/-! ### objects that are such dicts -/
theorem OAt.dkt {K : PySem.W.Frag} {φ : Nat → Option Addr} {Hf : Hp} {o : Ob} {x : Option HO} (h : OAt K φ Hf o x) (hk : o.k = .dkt) : ∃ (a' : Addr) (ks ds : List D) (ns : List NestedKey) (as : List Addr) (ws : List V) (us : List Value), x = Option.some (dkO a' (kents ns as us)) ∧ o.xs.take (o.xs.length / 2) = ks ∧ o.xs.drop (o.xs.length / 2) = ds ∧
    nqAll ks = Option.some ns ∧ ns.Nodup ∧ NestedKey.depthAll ns ≤ 8 ∧ ks.length = ds.length ∧ ks.length ≤ 1000000 ∧ Vals ws us ∧ RpAll K φ Hf ks (as.map V.ref) ∧ RpAll K φ Hf ds ws := by
  obtain ⟨vs, r, q⟩ := h
  rw [hk] at q
  obtain ⟨b, ks, ds, ns, as, ws, us, e1, e2, e3, e4, e5, e6, e7, e8, e9, e10⟩ := q
  rw [e2, e3] at r
  have hl : o.xs.length / 2 = ks.length := by rw [e2, List.length_append]; omega
  obtain ⟨r1, r2⟩ := RpAll.split (by rw [List.length_map]; exact e5) r
  exact ⟨b, ks, ds, ns, as, ws, us, e1, by rw [hl, e2, List.take_left], by rw [hl, e2, List.drop_left], e6, e7, e8, e4, e9, e10, r1, r2⟩
def mKGetO (M0 : Env → List Ob → Option (D × List Ob)) (Fi : Env → Option D) : Env → List Ob → Option (D × List Ob) := fun ρ S => match M0 ρ S with
  | some (.obj i, S1) => (match Fi ρ with
    | some y => (match S1[i]? with
      | some o => if o.k = .dkt then (match nqAll (o.xs.take (o.xs.length / 2)) with | some ns => (match keyD y with | some k => (match kget k ns (o.xs.drop (o.xs.length / 2)) with | some d => some (d, S1) | none => none) | none => none) | none => none) else none
      | none => none)
    | none => none)
  | _ => none
def kputXs (k : NestedKey) (y d : D) (ns : List NestedKey) (xs : List D) : List D := kput k ns y (xs.take (xs.length / 2)) ++ kputX k d ns (xs.drop (xs.length / 2))
def mPutK (M0 : Env → List Ob → Option (D × List Ob)) (Fi : Env → Option D) (M1 : Env → List Ob → Option (D × List Ob)) : Env → List Ob → Option MOut := fun ρ S => match M1 ρ S with
  | some (d, S1) => (match M0 ρ S1 with
    | some (.obj i, S2) => (match Fi ρ with
      | some y => (match S2[i]? with
        | some o => if o.k = .dkt ∧ o.xs.length < 1000000 then (match nqAll (o.xs.take (o.xs.length / 2)) with | some ns => (match keyD y with | some k => some (.nx ρ (setL S2 i (kputXs k y d ns o.xs))) | none => none) | none => none) else none
        | none => none)
      | none => none)
    | _ => none)
  | none => none
theorem kput_nq {y : D} {k : NestedKey} (hy : nq y = some k) {ks : List D} {ns : List NestedKey} (h : nqAll ks = some ns) : nqAll (kput k ns y ks) = some (kput k ns k ns) := by
  unfold kput
  split
  · exact h
  · exact nqAll_snoc hy h
theorem RpAll.kput {K : PySem.W.Frag} {φ : Nat → Option Addr} {H : Hp} {k : NestedKey} {ns : List NestedKey} {y : D} {b : Addr} (q : Rp K φ H y (.ref b)) {ks : List D} {as : List Addr} (r : RpAll K φ H ks (as.map V.ref)) : RpAll K φ H (FL.kput k ns y ks) ((FL.kput k ns b as).map V.ref) := by
  unfold FL.kput
  split
  · exact r
  · rw [List.map_append]
    exact r.append (.one q)
section
variable {X : Cx} [WW X.w] {O : List Nat} {o ix value : Expr} {pos pos' : Pos} {M0 M1 : Env → List Ob → Option (D × List Ob)} {Fi : Env → Option D}
end
/-! ### while -/
def mWhile (n : Nat) (T : Env → List Ob → Option (Bool × List Ob)) (G : Env → List Ob → Option MOut) : Env → List Ob → Option MOut := match n with
  | 0 => fun _ _ => none
  | n + 1 => fun ρ S => match T ρ S with
    | some (true, S1) => (match G ρ S1 with
      | some (.nx ρ2 S2) => mWhile n T G ρ2 S2
      | some (.rt d S2) => some (.rt d S2)
      | none => none)
    | some (false, S1) => some (.nx ρ S1)
    | none => none
/-! ### reversed -/
def jRev (M1 : Env → List Ob → Option (D × List Ob)) : Env → List Ob → Option (List D × List Ob) := fun ρ S => match M1 ρ S with
  | some (.lst xs, S') => some (xs.reverse, S')
  | _ => none
end FL
namespace FL
variable [HW]
open PySem PySem.Spec L2 PyProof.Rows

/-! ### dict comprehensions with such keys -/
def tKPut1 (K : PySem.W.Frag) (tk tv : TE) (D : Addr) (Nx : Hp → Prop) : L2.St → Hp → Prop := fun σ H => tk σ H fun y H4 => tv σ H4 fun v H5 => ∃ b a' ns as vs us k, y = .ref b ∧ H5 D = some (dkO a' (kents ns as us)) ∧ DkO K H5 (H5 D) ns as vs us ∧ KyO K H5 k b ∧ ns.length < 1000000 ∧
  ∀ u, RelV v u → Nx (upd H5 D (dkO D (kents (kput k ns k ns) (kput k ns b as) (kputX k u ns us))))
def tKDc (K : PySem.W.Frag) (l : Lv) (tk tv : TE) : TE := fun σ H Q => l.wi σ H fun J H1 => ∀ D, H1 D = none → Walk l (tKPut1 K tk tv D) J (fun H => Q (.ref D) H) σ (upd H1 D (dkO D []))
section
variable {X : Cx} [WW X.w] {kx vx tg iter : Expr} {ifs : List Expr} {scope : Scope} {own : List (Str × Nat)} {pos : Pos} {tk tv : TE} {ce : PySem.Env} {D : Addr} {s3 : Shared} {H3 : Hp} {fp : List Addr}
end
def kdcL (g : D → Env → Option Env) (T : Env → Option Bool) (Kf E : Env → Option D) (ρ : Env) : List D → List D → List D → Option (List D × List D)
  | [], ks, xs => some (ks, xs)
  | d :: ds, ks, xs => match g d ρ with
    | none => none
    | some ρ1 => match T ρ1 with
      | none => none
      | some false => kdcL g T Kf E ρ ds ks xs
      | some true => match Kf ρ1 with
        | none => none
        | some y => match keyD y with
          | none => none
          | some k => match E ρ1 with
            | none => none
            | some x => match nqAll ks with
              | none => none
              | some ns => if ks.length < 1000 then kdcL g T Kf E ρ ds (kput k ns y ks) (kputX k x ns xs) else none
def eKDc (vs : List Nat) (Fi : Env → Option (List D)) (g : D → Env → Option Env) (T : Env → Option Bool) (Kf E : Env → Option D) : Env → Option D := fun ρ => match Fi ρ with
  | some ds => if ds.length < 1000000 then (match kdcL g T Kf E (wipeE ρ vs) ds [] [] with | some (ks, xs) => some (.dkt false ks xs) | none => none) else none
  | none => none
theorem KNew.put {K : PySem.W.Frag} {φ : Nat → Option Addr} {Hf Hf' H H' : Hp} {a b : Addr} {ks ds : List D} {ns : List NestedKey} {as : List Addr} {vs : List V} {us : List Value} {k : NestedKey} {y x : D} {v : V} {u : Value} (n : KNew K φ Hf H a ks ds ns as vs us) (s : Same Hf Hf') (nf : Hf' a = none) (hy : nq y = some k) (dp : k.depth ≤ 8) (ry : Rp K φ Hf' y (.ref b)) (rx : Rp K φ Hf' x v) (ru : RelV v u) (hl : ks.length < 1000000) :
    KNew K φ Hf' (upd H' a (dkO a (kents (kput k ns k ns) (kput k ns b as) (kputX k u ns us)))) a (kput k ns y ks) (kputX k x ns ds) (kput k ns k ns) (kput k ns b as) (kputX k v ns vs) (kputX k u ns us) := by
  refine ⟨upd_same, nf, kput_nq hy n.kn, kput_nodup n.nd, ?_, kputX_len k x y ns ds ks n.ll, ?_, Vals.kputX ru n.rv, RpAll.kput ry (n.rk.mono s), (n.rd.mono s).kputX rx⟩
  · unfold kput
    split
    · exact n.dp
    · exact depthAll_snoc _ _ n.dp dp
  · unfold kput
    split
    · exact n.len
    · rw [List.length_append, List.length_singleton]; omega
section
variable {X : Cx} [WW X.w] {O O2 : List Nat} {tg iter kx elt : Expr} {scope : Scope} {own : List (Str × Nat)} {pos : Pos}
end
/-! walks over the keys of a dict that no one changes any more -/
def Itkk (d : Addr) (o : Obj) (a' : Addr) (es : List DictEntry) (as : List Addr) : It :=
  ⟨fun i H => H d = some (.frz o (dkO a' es)) ∧ i < es.length, fun i H x H' => H' = H ∧ ∃ q, as[i]? = some q ∧ x = .ref q, fun i H => H d = some (.frz o (dkO a' es)) ∧ es.length ≤ i⟩
def iKKeysT (K : PySem.W.Frag) (td : TE) : TI := fun σ H R => td σ H fun x H1 => ∃ d o a' ns as us, x = .ref d ∧ H1 d = some (.frz o (dkO a' (kents ns as us))) ∧ ns.length = as.length ∧ ns.length = us.length ∧ R (Itkk d o a' (kents ns as us) as) H1
def iKKeys (F : Env → Option D) : Env → Option (List D) := fun ρ => match F ρ with | some (.dkt true ks _) => some ks | _ => none
end FL
namespace FL
variable [HW]
open PySem PySem.Spec L2 PyProof.Rows

/-! ### no object in it -/
mutual
def noOb : D → Bool
  | .obj _ => false | .tup xs => noObs xs | .lst xs => noObs xs | .klst xs => noObs xs | .ins _ _ xs => noObs xs | .dct _ xs => noObs xs | .dkt _ ks xs => noObs ks && noObs xs | .xtp xs => noObs xs | _ => true
def noObs : List D → Bool
  | [] => true
  | d :: ds => noOb d && noObs ds
end
section
variable {K : PySem.W.Frag} {φ φ' : Nat → Option Addr} {H : Hp}
mutual
theorem Rp.anyφ : ∀ {d : D} {v : V}, noOb d = true → Rp K φ H d v → Rp K φ' H d v
  | _, _, _, .non => .non
  | _, _, _, .bl b => .bl b
  | _, _, _, .int i => .int i
  | _, _, _, .str x => .str x
  | .tup _, _, h, .tup s r => .tup s (RpAll.anyφ (by simpa [noOb] using h) r)
  | .lst _, _, h, .lst s r => .lst s (RpAll.anyφ (by simpa [noOb] using h) r)
  | .klst _, _, h, .klst s r => .klst s (RpAll.anyφ (by simpa [noOb] using h) r)
  | .obj _, _, h, _ => by simp [noOb] at h
  | .ins _ _ _, _, h, .ins s l r => .ins s l (RpAll.anyφ (by simpa [noOb] using h) r)
  | .dct _ _, _, h, .dct s l r => .dct s l (RpAll.anyφ (by simpa [noOb] using h) r)
  | .xtp _, _, h, .xtp s p r => .xtp s p (RpAll.anyφ (show noObs _ = true from h) r)
  | .dkt _ _ _, _, h, .dkt s a b c d f g r t => .dkt s a b c d f g (RpAll.anyφ (Bool.and_eq_true_iff.mp (show (noObs _ && noObs _) = true from h)).1 r) (RpAll.anyφ (Bool.and_eq_true_iff.mp (show (noObs _ && noObs _) = true from h)).2 t)
theorem RpAll.anyφ : ∀ {ds : List D} {vs : List V}, noObs ds = true → RpAll K φ H ds vs → RpAll K φ' H ds vs
  | [], _, _, .nil => .nil
  | _ :: _, _, h, .cons r t => .cons (Rp.anyφ (Bool.and_eq_true_iff.mp (show (noOb _ && noObs _) = true from h)).1 r) (RpAll.anyφ (Bool.and_eq_true_iff.mp (show (noOb _ && noObs _) = true from h)).2 t)
end
end
def ltOb (n : Nat) : D → Bool
  | .obj i => decide (i < n)
  | d => noOb d
def pmφ (φ : Nat → Option Addr) (n : Nat) : Nat → Option Addr := fun i => if i < n then φ i else none
theorem Rp.pm {K : PySem.W.Frag} {φ : Nat → Option Addr} {H : Hp} {n : Nat} {d : D} {v : V} (h : ltOb n d = true) (r : Rp K φ H d v) : Rp K (pmφ φ n) H d v := by
  cases d with
  | obj i =>
    cases r with
    | obj e => exact .obj (by unfold pmφ; rw [if_pos (of_decide_eq_true h)]; exact e)
  | _ => exact r.anyφ h
theorem RpAll.pm {K : PySem.W.Frag} {φ : Nat → Option Addr} {H : Hp} {n : Nat} : ∀ {ds : List D} {vs : List V}, ds.all (ltOb n) = true → RpAll K φ H ds vs → RpAll K (pmφ φ n) H ds vs
  | [], _, _, .nil => .nil
  | _ :: _, _, h, .cons r t => by
    rw [List.all_cons, Bool.and_eq_true] at h
    exact .cons (r.pm h.1) (RpAll.pm h.2 t)
/-! ### a dict that changed is fixed: the last object is an object no more -/
def okSl (n : Nat) : Option D → Bool | some d => ltOb n d | none => true
def mScope (j : Nat) (GA GR : Env → List Ob → Option MOut) : Env → List Ob → Option MOut := fun ρ S => match GA ρ S with
  | some (.nx ρ1 S1) => (match S1[S.length]? with
    | some o => (match ρ1[j]? with
      | some (some (.obj n)) => if n = S.length ∧ S1.length = S.length + 1 ∧ o.k = .dkt ∧ ((ρ1.set j none).all (okSl n) = true ∧ (S1.take n).all (fun q => q.xs.all (ltOb n)) = true ∧ noObs o.xs = true) then
          GR (ρ1.set j (some (.dkt true (o.xs.take (o.xs.length / 2)) (o.xs.drop (o.xs.length / 2))))) (S1.take n) else none
      | _ => none)
    | none => none)
  | _ => none
/-! ### a def that changes objects of its own alone -/
def ownM (mir : List D → List Ob → Option (D × List Ob)) : List D → Option D := fun ds => if noObs ds = true then (match mir ds [] with | some (d, _) => if noOb d = true then some d else none | none => none) else none
/-! ### a method of an object that an expression makes -/
def mMeM (c m : Str) (mir : List D → List Ob → Option (D × List Ob)) (M0 : Env → List Ob → Option (D × List Ob)) : Env → List Ob → Option (D × List Ob) := fun ρ S => match M0 ρ S with
  | some (.obj i, S1) => (match S1[i]? with | some o => if o.k = .ins ∧ o.c = c ∧ o.fs.contains m = false then mir [.obj i] S1 else none | none => none)
  | _ => none
end FL
namespace FL
variable [HW]
open PySem PySem.Spec L2
section
variable {P : Program} {w : World} [WW w] {K : PySem.W.Frag} {mg : Str → Option Value} {base : Heap} {k : Nat} {a : Addr} {ps N : List Str} {x q : Str} {st : Stmt} {m : List D → Option D} {G : Env → Option Out}
end
end FL
namespace FL
variable [HW]
open PySem PySem.Spec L2

/-! ### a def that changes objects of its own alone and gives a new list -/
def ownN (N n : Nat) (GA : Env → List Ob → Option MOut) (GR : Env → Option Out) : List D → Option D := fun ds => if noObs ds = true then (match GA (envOf N n ds) [] with
  | some (.nx ρ _) => (match GR ρ with | some (.rt (.lst xs)) => if noObs xs = true then some (.lst xs) else none | _ => none)
  | _ => none) else none
section
variable {P : Program} {w : World} [WW w] {K : PySem.W.Frag} {mg : Str → Option Value} {base : Heap} {k : Nat} {a : Addr} {ps N : List Str} {x q : Str} {st : Stmt} {GA : Env → List Ob → Option MOut} {GR : Env → Option Out} {dvs : List V} {kws : List (Str × V)}
end
/-! ### a variable that gets None or a new list: what follows is asked of each -/
def sSplit (i : Nat) (F F' : Env → Option D) (GA GB : Env → Option Out) : Env → Option Out := fun ρ => match F ρ with
  | some .non => GA (ρ.set i (some .non))
  | some _ => (match F' ρ with | some d => GB (ρ.set i (some d)) | none => none)
  | none => none
end FL
namespace FL
variable [HW]
open PySem PySem.Spec L2
/-! the same, where the first reading may fail -/
def sSplit2 (i : Nat) (F F' : Env → Option D) (GA GB : Env → Option Out) : Env → Option Out := fun ρ => match F ρ with
  | some .non => GA (ρ.set i (some .non))
  | _ => (match F' ρ with | some d => GB (ρ.set i (some d)) | none => none)
end FL
namespace FL
variable [HW]
open PySem PySem.Spec PyProof.Rows L2

/-! ### any of a list of bools and whole numbers -/
def trV : V → Option Bool
  | .bl b => some b
  | .int i => some (!(i == 0))
  | _ => none
def trD : D → Option Bool
  | .bl b => some b
  | .int i => some (!(i == 0))
  | _ => none
def allTr : List D → Option (List Bool)
  | [] => some []
  | d :: ds => (match trD d with | some b => (match allTr ds with | some bs => some (b :: bs) | none => none) | none => none)
def anyM : List D → Option D := fun xs => match xs with | [x] => if isLst x then (match seqD x with | some ys => (match allTr ys with | some bs => some (.bl (bs.any id)) | none => none) | none => none) else none | _ => none
def rAnyM (K : PySem.W.Frag) : List V → Hp → VK → Prop := fun vs H Q => ∃ (a : Addr) (ws : List V) (bs : List Bool), vs = [V.ref a] ∧ SqL K H a ws ∧ ws.map trV = bs.map some ∧ Q (.bl (bs.any id)) H
end FL
namespace FL
variable [HW]
open PySem PySem.Spec L2
/-! ### what changes objects, further in: operators, indexes, int(..), x.pop(), break, a def that calls itself -/
section
variable {X : Cx} [WW X.w] {O O' O1 L : List Nat} {e a b c : Expr} {es : List Expr} {st : Stmt} {sts : List Stmt} {x : Str} {p pos : Pos} {M1 : Env → List Ob → Option (D × List Ob)} {A1 : Env → List Ob → Option (List D × List Ob)} {F G : Env → Option D}
def qIx (f : D → D → Option D) (F : Env → Option D) (M1 : Env → List Ob → Option (D × List Ob)) : Env → List Ob → Option (D × List Ob) := fun ρ S => match F ρ with
  | some x => (match M1 ρ S with | some (y, S1) => (match f x y with | some d => some (d, S1) | none => none) | none => none)
  | none => none
theorem RpAll.rpb {K : PySem.W.Frag} {φ : Nat → Option Addr} {Hf H : Hp} : ∀ {ds : List D} {vs : List V}, RpAll K φ Hf ds vs → RpbAll K φ Hf H ds vs
  | _, _, .nil => .nil
  | _, _, .cons r t => .cons (.inl r) (RpAll.rpb t)
def qL (f : List D → Option D) (A1 : Env → List Ob → Option (List D × List Ob)) : Env → List Ob → Option (D × List Ob) := fun ρ S => match A1 ρ S with
  | some (ds, S1) => (match f ds with | some d => some (d, S1) | none => none)
  | none => none
/-! xs.pop() as a value -/
def mPop0 (i : Nat) : Env → List Ob → Option (D × List Ob) := fun ρ S => match ρ[i]? with
  | some (some (.obj t)) => (match S[t]? with
    | some o => if o.k = .lst then (match o.xs[o.xs.length - 1]? with | some d => some (d, setL S t (o.xs.take (o.xs.length - 1))) | none => none) else none
    | none => none)
  | _ => none
/-! bodies that break -/
inductive MOutB where
  | nx (ρ : Env) (S : List Ob) | rt (d : D) (S : List Ob) | bk (ρ : Env) (S : List Ob)
def MPostB (K : PySem.W.Frag) (φ : Nat → Option Addr) (B Bf : Hp) (O L : List Nat) (Hf : Hp) (Dn : Ends) : MOutB → Prop
  | .nx ρ S => ∀ φ' σ' Hf' H', Ext φ φ' → Same Hf Hf' → MSR K φ' B Bf O ρ S σ' Hf' H' → Dn.nx σ' H'
  | .rt d S => ∀ φ' v Hf' H', Ext φ φ' → Same Hf Hf' → MDone K φ' B Bf S Hf' H' → Rp K φ' Hf' d v → Dn.rt v H'
  | .bk ρ S => ∀ φ' σ' Hf' H', Ext φ φ' → Same Hf Hf' → MSR K φ' B Bf L ρ S σ' Hf' H' → Dn.bk σ' H'
theorem MPostB.mono {K : PySem.W.Frag} {φ φ1 : Nat → Option Addr} {B Bf : Hp} {Hf Hf1 : Hp} {Dn : Ends} (e : Ext φ φ1) (s : Same Hf Hf1) : ∀ {out : MOutB}, MPostB K φ B Bf O L Hf Dn out → MPostB K φ1 B Bf O L Hf1 Dn out
  | .nx _ _, h => fun φ' σ' Hf' H' e' s' => h φ' σ' Hf' H' (e.trans e') (s.trans s')
  | .rt _ _, h => fun φ' v Hf' H' e' s' => h φ' v Hf' H' (e.trans e') (s.trans s')
  | .bk _ _, h => fun φ' σ' Hf' H' e' s' => h φ' σ' Hf' H' (e.trans e') (s.trans s')
def MSsB (X : Cx) (O O' L : List Nat) (sts : List Stmt) (G : Env → List Ob → Option MOutB) : Prop :=
  ∀ (φ : Nat → Option Addr) (B Bf : Hp) (ρ : Env) (S : List Ob) (σ : L2.St) (Hf H : Hp) (out : MOutB) (Dn : Ends), MSR X.K φ B Bf O ρ S σ Hf H → G ρ S = some out → MPostB X.K φ B Bf O' L Hf Dn out → wSs X sts Dn σ H
def bOf : MOut → MOutB
  | .nx ρ S => .nx ρ S
  | .rt d S => .rt d S
def bEnd (G : Env → List Ob → Option MOut) : Env → List Ob → Option MOutB := fun ρ S => (G ρ S).map bOf
def bSeq (F : Env → List Ob → Option MOut) (G : Env → List Ob → Option MOutB) : Env → List Ob → Option MOutB := fun ρ S => match F ρ S with
  | some (.nx ρ' S') => G ρ' S'
  | some (.rt d S') => some (.rt d S')
  | none => none
def bBrk (T : Env → List Ob → Option (Bool × List Ob)) (G : Env → List Ob → Option MOutB) : Env → List Ob → Option MOutB := fun ρ S => match T ρ S with
  | some (true, S') => some (.bk ρ S')
  | some (false, S') => G ρ S'
  | none => none
variable {GM : Env → List Ob → Option MOut} {GB : Env → List Ob → Option MOutB} {MT1 : Env → List Ob → Option (Bool × List Ob)}
end
end FL
namespace FL
variable [HW]
open PySem PySem.Spec L2
/-! ### loops that break, defs that call themselves -/
section
variable {X : Cx} [WW X.w] {O O' O1 L : List Nat}
def mLoopB (g : D → Env → Option Env) (G : Env → List Ob → Option MOutB) : List D → Env → List Ob → Option MOut
  | [], ρ, S => some (.nx ρ S)
  | d :: ds, ρ, S => match g d ρ with
    | none => none
    | some ρ1 => match G ρ1 S with
      | some (.nx ρ2 S2) => mLoopB g G ds ρ2 S2
      | some (.rt d S2) => some (.rt d S2)
      | some (.bk ρ2 S2) => some (.nx ρ2 S2)
      | none => none
def mForB (Fi : Env → Option (List D)) (g : D → Env → Option Env) (G : Env → List Ob → Option MOutB) : Env → List Ob → Option MOut := fun ρ S => match Fi ρ with | some ds => mLoopB g G ds ρ S | none => none
end
section
variable {P : Program} {w : World} [WW w] {K : PySem.W.Frag} {mg : Str → Option Value} {base : Heap} {k : Nat} {a : Addr} {ps : List Str} {x : Str} {st : Stmt}
theorem CalE.mono {j : Nat} {n : Nat} {mir : List D → List Ob → Option (D × List Ob)} (c : CalE P w K mg base j x n mir) (h : j ≤ k) : CalE P w K mg base k x n mir := by
  obtain ⟨f, fd, ps, F, q⟩ := c.ok
  exact ⟨f, fd, ps, F.mono h, q⟩
end
end FL
namespace FL
variable [HW]
open PySem PySem.Spec L2 PyProof.Rows

/-! ### list(d.items()), the keys of d being tuples -/
def layP : List Addr → List (List V) → Hp → Hp
  | t :: ts, q :: qs, H => layP ts qs (upd H t (.tup q))
  | _, _, H => H
def prs (as : List Addr) (vs : List V) : List (List V) := List.zipWith (fun q v => [V.ref q, v]) as vs
def PairsAt (H : Hp) (ts as : List Addr) (vs : List V) : Prop := ∀ (i : Nat) (t : Addr), ts[i]? = some t → ∃ q v, as[i]? = some q ∧ vs[i]? = some v ∧ H t = some (.tup [.ref q, v])
section
variable {X : Cx} [WW X.w] {e : Expr} {te : TE} {p apos cpos pos : Pos}
def rKl (K : PySem.W.Frag) : V → Hp → VK → Prop := fun x H Q => ∃ a ns as vs us, x = .ref a ∧ DkO K H (H a) ns as vs us ∧
  ∀ (H' : Hp) (p : Addr) (ts : List Addr), Same H H' → H p = none → (∀ t ∈ ts, H t = none) → p ∉ ts → H' p = some (.lst (ts.map V.ref)) → ts.length = ns.length → PairsAt H' ts as vs → Q (.ref p) H'
def tKl (K : PySem.W.Frag) (te : TE) : TE := fun σ H Q => te σ H fun x H1 => rKl K x H1 Q
end
def kitL : D → Option D
  | .dkt _ ks ds => some (.lst (kitD ks ds))
  | _ => none
section
variable {X : Cx} [WW X.w] {O : List Nat} {e : Expr} {F : Env → Option D} {p apos cpos pos : Pos} {nm : Str}
end
end FL
namespace FL
variable [HW]
open PySem PySem.Spec L2

/-! ### a def that changes objects of its own alone and gives its own dict, or what has no object in it -/
def ownK (mir : List D → List Ob → Option (D × List Ob)) : List D → Option D := fun ds => if noObs ds = true then (match mir ds [] with
  | some (.obj n, S) => (match S[n]? with
    | some o => if o.k = .dkt ∧ noObs o.xs = true then some (.dkt false (o.xs.take (o.xs.length / 2)) (o.xs.drop (o.xs.length / 2))) else none
    | none => none)
  | some (d, _) => if noOb d = true then some d else none
  | none => none) else none
/-! ### a method of an object fixed for good that makes objects of its own and gives a new list -/
section
variable {P : Program} {w : World} [WW w] {K : PySem.W.Frag} {mg : Str → Option Value} {base : Heap} {k : Nat} {ps N : List Str} {c m q : Str} {st : Stmt} {GA : Env → List Ob → Option MOut} {GR : Env → Option Out} {kws : List (Str × V)}
end
end FL
namespace FL
variable [HW]
open PySem PySem.Spec L2 PyProof.Rows GenW

/-! ### a for in a def that yields -/
section
variable {M : Model} {A : Around} {R : GenEnd} {Y : Protocol} {n : Nat} {s0 : Shared} {c : Code} {fs : List Frame} {s : Shared} {env : PySem.Env}
  {K : Flow → Sem PySem.Fin} {J : Value → Sem PySem.Fin} {gd : Bool → Bool} {lv : List Value → List Value}
end
section
variable {prog : Program} {w : World} [WW w] {A : Around} {R : GenEnd} {Y : Protocol} {n : Nat} {s0 : Shared} {fs : List Frame} {s : Shared} {env : PySem.Env}
def outK (env : PySem.Env) (e : Value) : Sem PySem.Fin := (do noteFrame e env; theTreesLotGoes e : Sem Unit).wrap (fun _ => .raise e) .raise id id
def turnK (c : Code) (f : Flow) : Sem PySem.Fin := match f with
  | .next | .cont => .pure (.again c)
  | .brk => .pure (.done .next)
  | .ret v => .pure (.done (.ret v))
end
section
variable {X : Cx} [WW X.w]
def tGFor (wi : TI) (g : TG) (tb : TGn) : TGn := fun D ys σ H => wi σ H fun J H1 => ∃ W : Nat → Nat → List V → L2.St → Hp → Prop, (∃ m, W 0 m ys σ H1) ∧ ∀ i m ys σ H, W i m ys σ H →
  (J.stop i H ∧ D.nx ys σ H) ∨ (J.go i H ∧ ∃ N : List V → L2.St → Hp → Prop, (∀ ys' σ' H', N ys' σ' H' → ∃ m', m' < m ∧ W (i + 1) m' ys' σ' H') ∧ ∀ x H', J.yld i H x H' → g x σ H' fun σ2 H2 => tb { D with nx := N, ct := N, bk := D.nx } ys σ2 H2)
end
end FL
namespace FL
variable [HW]
open PySem PySem.Spec L2

/-! ### for in a def that yields, by its mirror -/
def yLoop (g : D → Env → Option Env) (G : List D → Env → Option GO) : List D → List D → Env → Option GO
  | [], acc, ρ => some (.nx acc ρ)
  | d :: ds, acc, ρ => match g d ρ with
    | none => none
    | some ρ1 => match G acc ρ1 with
      | some (.nx acc' ρ') => yLoop g G ds acc' ρ'
      | some (.rt acc') => some (.rt acc')
      | none => none
def yFor (Fi : Env → Option (List D)) (g : D → Env → Option Env) (G : List D → Env → Option GO) : List D → Env → Option GO := fun acc ρ => match Fi ρ with | some ds => yLoop g G ds acc ρ | none => none
section
variable {X : Cx} [WW X.w] {O O1 : List Nat} {tgs : List Nat} {tg : Expr} {g : D → Env → Option Env} {pos : Pos} {G : List D → Env → Option GO}
end
/-! ### methods that yield -/
structure CalYM (P : Program) (w : World) (K : PySem.W.Frag) (mg : Str → Option Value) (base : Heap) (k : Nat) (c m : Str) (n : Nat) (mir : List D → Option (List D)) : Prop where
  ok : ∃ (f : Addr) (fd : FuncData) (ps : List Str), GFn P w K mg base k f fd ps (spY K n mir) ∧ Cls K (He.ga K c) ∧ Meth K (He.ga K c) m f ∧ Binds K fd ps []
section
variable {P : Program} {w : World} [WW w] {K : PySem.W.Frag} {mg : Str → Option Value} {base : Heap} {k : Nat} {ps N : List Str} {c m q : Str} {st : Stmt} {G : List D → Env → Option GO} {kws : List (Str × V)}
end
def eMeY (c m : Str) (n : Nat) (mir : List D → Option (List D)) (Fo : Env → Option D) (Fs : Env → Option (List D)) : Env → Option (List D) := fun ρ => match Fo ρ with
  | some (.ins c' fs xs) => if c' = c then (if fs.contains m = false then (match Fs ρ with | some ds => if (D.ins c' fs xs :: ds).length = n then mir (.ins c' fs xs :: ds) else none | none => none) else none) else none
  | _ => none
def eLstY (F : Env → Option (List D)) : Env → Option D := fun ρ => match F ρ with | some ds => some (.lst ds) | none => none
section
variable {X : Cx} [WW X.w] {O : List Nat} {es : List Expr} {e o : Expr} {c m nm : Str} {p2 pos pos' apos : Pos} {Fo : Env → Option D} {Fs : Env → Option (List D)} {k j n : Nat} {mir : List D → Option (List D)}
def FGn (X : Cx) (O : List Nat) (k : Nat) (e : Expr) (F : Env → Option (List D)) : Prop :=
  ∃ tg : TGen, PGen X k e tg (fun _ _ _ => False) ∧ ∀ (φ : Nat → Option Addr) (Hf0 H0 : Hp) (ρ : Env) (σ : L2.St) (Hf H : Hp) (out : List D) (cont : List V → Hp → Prop), SR X.K φ Hf0 H0 O ρ σ Hf H → F ρ = some out → (∀ Hf' H' zs, Gr Hf H Hf' H' → RpAll X.K φ Hf' out zs → cont zs H') → tg σ H cont
end
end FL
namespace FL
variable [HW]
open PySem PySem.Spec L2 PyProof.Rows GenW

/-! ### generators whose consumer is a comprehension: what stands at F is the consumer's -/
structure Nap (F : List Addr) (s s' : Shared) : Prop where
  os : s'.os = s.os
  bare : AllBare s'.gens
  keep : ∀ b o, b ∉ F → s.heap.get? b = some o → s'.heap.get? b = some o
  own : ∀ b ∈ F, ∃ o, s'.heap.get? b = some o ∧ ∀ v, o.data ≠ .cell v
def ApartF (X : Cx) (F : List Addr) : Prop := ∀ S ∈ F, X.s_0.heap.objs.size ≤ S ∧ S ≠ X.env.locals ∧ ∀ x c, X.env.cells.lookup x = some c → c ≠ S
def GF (X : Cx) (F : List Addr) (ip : List (Addr × Obj)) (σ : L2.St) (H : Hp) (s0 s : Shared) : Prop :=
  ∃ fo : List (Addr × Obj), fo.map Prod.fst = F ∧ (∀ p ∈ fo, s0.heap.get? p.1 = some p.2) ∧ Inv X (fo ++ ip) σ H s
theorem fo_get {fo : List (Addr × Obj)} {S : Addr} (h : S ∈ fo.map Prod.fst) : ∃ o, (S, o) ∈ fo := by
  obtain ⟨p, hp, e⟩ := List.mem_map.mp h
  exact ⟨p.2, by rw [← e]; exact hp⟩
section
variable {X : Cx} [WW X.w] {F : List Addr} {ip : List (Addr × Obj)} {σ : L2.St} {H : Hp} {s0 s s' : Shared}
theorem GF.at (h : GF X F ip σ H s0 s) : ∀ S ∈ F, H S = none ∧ S ≠ X.env.locals ∧ S ∉ X.fs ∧ ∃ o, s0.heap.get? S = some o ∧ s.heap.get? S = some o := by
  obtain ⟨fo, rfl, h0, I⟩ := h
  intro S hS
  obtain ⟨o, ho⟩ := fo_get hS
  obtain ⟨h1, h2, h3, h4, _⟩ := I.pin (S, o) (List.mem_append_right _ (List.mem_append_left _ ho))
  exact ⟨h2, h3, h4, o, h0 _ ho, h1⟩
theorem GF.woken (hpn : ∀ p ∈ X.pn, p.1 ∉ F) (hip : ∀ p ∈ ip, p.1 ∉ F) (hA : ApartF X F) (h : GF X F ip σ H s0 s) (z : Nap F s s') : GF X F ip σ H s' s' := by
  have hat := h.at
  obtain ⟨fo, hfo, h0, I⟩ := h
  have I0 : Inv X ip σ H s := I.pins_of fun p hp => I.pin p (List.mem_append_right _ (List.mem_append_right _ hp))
  have nt : ∀ b u, H b = some u → b ∉ F := fun b u q hb => by rw [(hat b hb).1] at q; cases q
  obtain ⟨z1, z2, z3, z4⟩ := z
  obtain ⟨hh, g, d, t, o⟩ := s'
  have ho : o = s.os := z1
  subst ho
  have J : Inv X ip σ H { s with heap := hh, gens := g, drawn := d, toks := t } := by
    refine I0.step (g' := g) (t' := t) (d' := d) (ch := F) (fun b hb => ?_)
      (fun b ob _ _ hc q _ => z3 b ob hc q) (fun b ob _ _ hc q _ => ⟨ob.slots, z3 b ob hc q⟩) (fun _ _ _ _ n => n) (fun b ob hc q => ⟨ob, z3 b ob hc q⟩)
      (fun _ _ q => q) (fun _ _ _ q => q) (fun b ps q => ⟨#[], by rw [q]; simp⟩) (fun m hm => ?_) (fun b u q => ?_) z2
    · obtain ⟨a1, a2, a3⟩ := hA b hb
      refine ⟨.inr a1, a2, a3, fun p hp e => ?_⟩
      rcases List.mem_append.mp hp with hp | hp
      · exact hpn p hp (by rw [e]; exact hb)
      · exact hip p hp (by rw [e]; exact hb)
    · obtain ⟨ob, es, ep, ho, r⟩ := hm
      exact ⟨ob, es, ep, z3 _ ob (fun hb => (hat _ hb).2.1 rfl) ho, r⟩
    · refine (I0.hok b u q).stay (fun c v hc y => z3 c v ?_ y) (fun _ y => y) fun _ _ y => y
      rcases hc with y | y
      · rw [y]; exact nt b u q
      · exact nt c _ y
  have hF : ∀ S ∈ F, ∃ o, ({ s with heap := hh, gens := g, drawn := d, toks := t } : Shared).heap.get? S = some o ∧ ∀ v, o.data ≠ .cell v := z4
  obtain ⟨fo', e1, e2⟩ : ∃ fo' : List (Addr × Obj), fo'.map Prod.fst = F ∧ ∀ p ∈ fo', hh.get? p.1 = some p.2 ∧ ∀ v, p.2.data ≠ .cell v := by
    clear hfo hat hA hpn hip nt z3 z4 J
    induction F with
    | nil => exact ⟨[], rfl, fun p hp => by simp at hp⟩
    | cons b F ih =>
      obtain ⟨o, h1, h2⟩ := hF b (.head _)
      obtain ⟨fo', h3, h4⟩ := ih fun S hS => hF S (.tail _ hS)
      refine ⟨(b, o) :: fo', by rw [List.map_cons, h3], fun p hp => ?_⟩
      rcases List.mem_cons.mp hp with rfl | hp
      · exact ⟨h1, h2⟩
      · exact h4 p hp
  refine ⟨fo', e1, fun p hp => (e2 p hp).1, J.pins_of fun p hp => ?_⟩
  rcases List.mem_append.mp hp with hp' | hp'
  · have hm : p.1 ∈ F := by rw [← e1]; exact List.mem_map_of_mem hp'
    obtain ⟨b1, b2, b3, _⟩ := hat _ hm
    exact ⟨(e2 p hp').1, b1, b2, b3, (e2 p hp').2⟩
  · exact J.pin p (List.mem_append_right _ hp')
end

/-! ### the protocol: Wc, what the consumer keeps, over what is fixed; PY, what each yield tells -/
abbrev ZK := Hp → Prop
abbrev PYK := Nat → V → Hp → Hp → Prop
def GqY (X : Cx) (F : List Addr) (PY : PYK) (Wc : Nat → Shared → ZK) : Protocol := fun n s0 v s kap =>
  ∃ k x ip σ Hf H, n + 1 + k = sizeLine ∧ RelV x v ∧ GF X F ip σ H s0 s ∧ PY k x Hf H ∧ Wc k s0 Hf ∧ ∀ s', Nap F s s' → Wc (k + 1) s' Hf → kap (.send .none) s'
def GqR (X : Cx) (F : List Addr) (Wc : Nat → Shared → ZK) (Q : ZK → Nat → VK) (B : Value → Shared → Prop) : GenEnd := fun n s0 r s => match r with
  | .ok (.ret u) => ∃ k v ip σ H, n + k = sizeLine ∧ GF X F ip σ H s0 s ∧ RelV v u ∧ Q (Wc k s0) k v H
  | .ok _ => False
  | .error e => B e s
structure GqEnds where
  nx : ZK → Nat → L2.St → Hp → Prop
  rt : ZK → Nat → VK
  bk : ZK → Nat → L2.St → Hp → Prop := fun _ _ _ _ => False
  ct : ZK → Nat → L2.St → Hp → Prop := fun _ _ _ _ => False
abbrev TGq := PYK → GqEnds → ZK → Nat → L2.St → Hp → Prop
def GqEnds.at (D : GqEnds) (Z : ZK) (k : Nat) : Ends := { nx := D.nx Z k, rt := D.rt Z k, bk := D.bk Z k, ct := D.ct Z k }
def GqSP (X : Cx) (F : List Addr) (ip : List (Addr × Obj)) (D : GqEnds) (Z : ZK) (k : Nat) (f : Flow) (s0 s : Shared) : Prop :=
  match f with
  | .next => ∃ σ H, GF X F ip σ H s0 s ∧ D.nx Z k σ H
  | .brk => ∃ σ H, GF X F ip σ H s0 s ∧ D.bk Z k σ H
  | .cont => ∃ σ H, GF X F ip σ H s0 s ∧ D.ct Z k σ H
  | .ret u => ∃ v σ H, GF X F ip σ H s0 s ∧ RelV v u ∧ D.rt Z k v H
structure GqC (X : Cx) (F : List Addr) (ip : List (Addr × Obj)) (Wc : Nat → Shared → ZK) (A : Around) (c : Code) (fs : List Frame) (gd : Bool → Bool) : Prop where
  pn : ∀ p ∈ X.pn, p.1 ∉ F
  ip : ∀ p ∈ ip, p.1 ∉ F
  apart : ApartF X F
  mono : ∀ k s Hf Hf', Same Hf Hf' → Wc k s Hf → Wc k s Hf'
  over : A.over c fs = X.A
  split : splitAtGen fs = none
  guard : fs.any Frame.guarded = false
  gd : gd false = false
structure GqK (X : Cx) (F : List Addr) (ip : List (Addr × Obj)) (A : Around) (R : GenEnd) (PY : PYK) (Wc : Nat → Shared → ZK) (c : Code) (fs : List Frame) (K : Flow → Sem PySem.Fin) (J : Value → Sem PySem.Fin) (D : GqEnds) : Prop where
  ok : ∀ (n k : Nat) (s0 s : Shared) (f : Flow), n + k = sizeLine → GqSP X F ip D (Wc k s0) k f s0 s → Seg (model X.prog X.w) A R (GqY X F PY Wc) n s0 c (K f) fs s
  exc : ∀ (n : Nat) (s0 : Shared) (e : Value) (s : Shared), X.xe e s → Seg (model X.prog X.w) A R (GqY X F PY Wc) n s0 c (J e) fs s
structure GqS (X : Cx) (st : Stmt) (t : TGq) : Prop where
  run : ∀ (A : Around) (F : List Addr) (ip : List (Addr × Obj)) (R : GenEnd) (PY : PYK) (Wc : Nat → Shared → ZK) (n k : Nat) (s0 : Shared) (c : Code) (fs : List Frame) (K : Flow → Sem PySem.Fin) (J : Value → Sem PySem.Fin) (gd : Bool → Bool) (lv : List Value → List Value) (s : Shared) (σ : L2.St) (H : Hp) (D : GqEnds),
    GqC X F ip Wc A c fs gd → n + k = sizeLine → GqK X F ip A R PY Wc c fs K J D → GF X F ip σ H s0 s → t PY D (Wc k s0) k σ H →
    Seg (model X.prog X.w) A R (GqY X F PY Wc) n s0 c ((exec st X.env).wrap K J gd lv) fs s
structure GqSs (X : Cx) (st : List Stmt) (t : TGq) : Prop where
  run : ∀ (A : Around) (F : List Addr) (ip : List (Addr × Obj)) (R : GenEnd) (PY : PYK) (Wc : Nat → Shared → ZK) (n k : Nat) (s0 : Shared) (c : Code) (fs : List Frame) (K : Flow → Sem PySem.Fin) (J : Value → Sem PySem.Fin) (gd : Bool → Bool) (lv : List Value → List Value) (s : Shared) (σ : L2.St) (H : Hp) (D : GqEnds),
    GqC X F ip Wc A c fs gd → n + k = sizeLine → GqK X F ip A R PY Wc c fs K J D → GF X F ip σ H s0 s → t PY D (Wc k s0) k σ H →
    Seg (model X.prog X.w) A R (GqY X F PY Wc) n s0 c ((execs st X.env).wrap K J gd lv) fs s
section
variable {X : Cx} [WW X.w] {st : Stmt} {rest : List Stmt}
def tQPlain (t : TS) : TGq := fun _ D Z k σ H => t (D.at Z k) σ H
def tQ0 : TGq := fun _ D Z k σ H => D.nx Z k σ H
def tQThen (t u : TGq) : TGq := fun PY D Z k σ H => t PY { D with nx := fun Z' k' σ' H' => u PY D Z' k' σ' H' } Z k σ H
def tQIf (tc : TT) (t u : TGq) : TGq := fun PY D Z k σ H => tc σ H fun b H1 => if b = true then t PY D Z k σ H1 else u PY D Z k σ H1
def tQYield (te : TE) : TGq := fun PY D Z k σ H => k < sizeLine ∧ te σ H fun x H1 => ∃ Hf1, PY k x Hf1 H1 ∧ Z Hf1 ∧ ∀ Z' : ZK, (∀ Hf Hf', Same Hf Hf' → Z' Hf → Z' Hf') → Z' Hf1 → D.nx Z' (k + 1) σ H1
def tQFor (wi : TI) (g : TG) (tb : TGq) : TGq := fun PY D Z k σ H => wi σ H fun J H1 => ∃ W : Nat → Nat → ZK → Nat → L2.St → Hp → Prop, (∃ m, W 0 m Z k σ H1) ∧ ∀ i m Z k σ H, W i m Z k σ H →
  (J.stop i H ∧ D.nx Z k σ H) ∨ (J.go i H ∧ ∃ N : ZK → Nat → L2.St → Hp → Prop, (∀ Z' k' σ' H', N Z' k' σ' H' → ∃ m', m' < m ∧ W (i + 1) m' Z' k' σ' H') ∧ ∀ x H', J.yld i H x H' → g x σ H' fun σ2 H2 => tb PY { D with nx := N, ct := N, bk := D.nx } Z k σ2 H2)
end
end FL
namespace FL
variable [HW]
open PySem PySem.Spec L2 PyProof.Rows GenW
instance {P : Program} {w : World} {K : PySem.W.Frag} {mg : Str → Option Value} {base : Heap} {N : List Str} {q : Str} {sc : Scope} {f : Addr} {cd : Value} {A : Around} {outer : List PySem.Env} {s : Shared} {H : Hp} {E : XK} {pn : List (Addr × Obj)} [i : WW w] : WW (gcxOf P w K mg base N q sc f cd A outer s H E pn).w := i

/-! ### a def that yields, for such a consumer -/
abbrev CtK := ZK → Nat → Hp → Prop
abbrev SpQ := List V → Hp → Hp → PYK → CtK → Prop
def FAt (F : List Addr) (H' : Hp) (s0 s1 : Shared) : Prop := ∀ S ∈ F, H' S = none ∧ ∃ o, s0.heap.get? S = some o ∧ s1.heap.get? S = some o
def QEnd (P : Program) (w : World) (outer : List PySem.Env) (H : Hp) (s : Shared) (F : List Addr) (a : Addr) (g : Nat) (Wc : Nat → Shared → ZK) (Q : CtK) (E : XK) : GenEnd := fun n s0 r s1 =>
  ((r = .ok (.ret .none) ∨ r = .ok .next) ∧ ∃ H' k, s1.os = s.os ∧ AllBare s1.gens ∧ Un (frs outer) [] H H' s.heap s1.heap ∧ HOk P w H' s1.heap ∧ FAt F H' s0 s1 ∧ n + k = sizeLine ∧ Q (Wc k s0) k H') ∨
  ∃ e, r = .error e ∧ L2.CX P w outer H s E e s1 ∧ s1.heap.IsGen a g
def QItem (P : Program) (w : World) (outer : List PySem.Env) (H : Hp) (s : Shared) (F : List Addr) (a : Addr) (g : Nat) (PY : PYK) (Wc : Nat → Shared → ZK) : Protocol := fun n s0 v s1 kap =>
  ∃ k x Hf H', n + 1 + k = sizeLine ∧ RelV x v ∧ PY k x Hf H' ∧ Wc k s0 Hf ∧ s1.os = s.os ∧ AllBare s1.gens ∧ s1.heap.NoLimit ∧ s1.heap.IsGen a g ∧ Un (frs outer) [] H H' s.heap s1.heap ∧ HOk P w H' s1.heap ∧ FAt F H' s0 s1 ∧
    ∀ s', Nap F s1 s' → Wc (k + 1) s' Hf → kap (.send .none) s'
def QMade (P : Program) (w : World) (k : Nat) (outer : List PySem.Env) (H Hf : Hp) (s : Shared) (PY : PYK) (Q : CtK) (E : XK) (u : Value) (s' : Shared) : Prop :=
  ∃ (a : Addr) (g : Nat) (c : Code), u = .ref a ∧ s.heap.objs.size ≤ a ∧ a < s'.heap.objs.size ∧ s'.heap.IsGen a g ∧ s'.gens[g]? = some (.fresh c) ∧ s'.os = s.os ∧ AllBare s'.gens ∧ s'.heap.NoLimit ∧ (∀ b o, s.heap.get? b = some o → s'.heap.get? b = some o) ∧
    ∀ (A : Around) (F : List Addr) (s2 : Shared) (Wc : Nat → Shared → ZK), Room k A → A.frames = some outer → (∀ S ∈ F, s'.heap.objs.size ≤ S ∧ ∃ o, s2.heap.get? S = some o ∧ ∀ v, o.data ≠ .cell v) → (∀ b o, s'.heap.get? b = some o → s2.heap.get? b = some o) → s2.os = s.os → AllBare s2.gens →
      (∀ k s Hf Hf', Same Hf Hf' → Wc k s Hf → Wc k s Hf') → Wc 0 s2 Hf →
      Seg (model P w) A (QEnd P w outer H s F a g Wc Q E) (QItem P w outer H s F a g PY Wc) sizeLine s2 c ((model P w).den c) [] s2
structure QFn (P : Program) (w : World) (K : PySem.W.Frag) (mg : Str → Option Value) (base : Heap) (k : Nat) (f : Addr) (fd : FuncData) (ps : List Str) (sp : SpQ) : Prop where
  len : ∀ vs H Hf PY Q, sp vs H Hf PY Q → vs.length = ps.length
  run : ∀ (A : Around) (outer : List PySem.Env) (s : Shared) (H Hf : Hp) (args : Args) (us : List Value) (vs : List V) (PY : PYK) (Q : CtK), Room k A → Env0 P w K mg base A outer s H → BindsTo s fd args (ps.zip us) → Vals vs us → sp vs H Hf PY Q →
    codeAny (model P w) A (.call (.ref f) args) (fun r s' => match r with | .ok (.ret u) => QMade P w k outer H Hf s PY Q (fun _ _ _ => False) u s' | _ => False) s

end FL
namespace FL
variable [HW]
open PySem PySem.Spec L2

/-! ### .. by its mirror -/
def MonoZ (Z : ZK) : Prop := ∀ Hf Hf', Same Hf Hf' → Z Hf → Z Hf'
def GO.out : GO → List D
  | .nx acc _ => acc
  | .rt acc => acc
def MonoG (G : List D → Env → Option GO) : Prop := ∀ acc ρ o, G acc ρ = some o → acc <+: o.out
def ZPost (K : PySem.W.Frag) (φ : Nat → Option Addr) (Hf0 H0 : Hp) (O : List Nat) (Hf : Hp) (Dn : GqEnds) : GO → Prop
  | .nx acc ρ => ∀ Z σ' Hf' H', MonoZ Z → Same Hf Hf' → SR K φ Hf0 H0 O ρ σ' Hf' H' → Z Hf' → Dn.nx Z acc.length σ' H'
  | .rt acc => ∀ Z Hf' H', MonoZ Z → Gr Hf0 H0 Hf' H' → Z Hf' → Dn.rt Z acc.length .non H'
theorem ZPost.mono {K : PySem.W.Frag} {φ : Nat → Option Addr} {Hf0 H0 : Hp} {O : List Nat} {Hf Hf1 : Hp} {Dn : GqEnds} (s : Same Hf Hf1) : ∀ {out : GO}, ZPost K φ Hf0 H0 O Hf Dn out → ZPost K φ Hf0 H0 O Hf1 Dn out
  | .nx _ _, h => fun Z σ' Hf' H' m s' => h Z σ' Hf' H' m (s.trans s')
  | .rt _, h => h
def PYok (K : PySem.W.Frag) (φ : Nat → Option Addr) (Hf0 H0 : Hp) (PY : PYK) (out : List D) : Prop :=
  ∀ acc d Hf' H' x, Gr Hf0 H0 Hf' H' → Rp K φ Hf' d x → (acc ++ [d]) <+: out → PY acc.length x Hf' H'
theorem PYok.pre {K : PySem.W.Frag} {φ : Nat → Option Addr} {Hf0 H0 : Hp} {PY : PYK} {o1 o2 : List D} (h : PYok K φ Hf0 H0 PY o2) (p : o1 <+: o2) : PYok K φ Hf0 H0 PY o1 :=
  fun acc d Hf' H' x g r q => h acc d Hf' H' x g r (q.trans p)
def wZ (X : Cx) (st : Stmt) : TGq := fun PY D Z k σ H => Lk (∀ (A : Around) (F : List Addr) (ip : List (Addr × Obj)) (R : GenEnd) (Wc : Nat → Shared → ZK) (n : Nat) (s0 : Shared) (c : Code) (fs : List Frame) (K : Flow → Sem PySem.Fin) (J : Value → Sem PySem.Fin) (gd : Bool → Bool) (lv : List Value → List Value) (s : Shared), Wc k s0 = Z →
  GqC X F ip Wc A c fs gd → n + k = sizeLine → GqK X F ip A R PY Wc c fs K J D → GF X F ip σ H s0 s → Seg (model X.prog X.w) A R (GqY X F PY Wc) n s0 c ((exec st X.env).wrap K J gd lv) fs s)
def wZs (X : Cx) (st : List Stmt) : TGq := fun PY D Z k σ H => Lk (∀ (A : Around) (F : List Addr) (ip : List (Addr × Obj)) (R : GenEnd) (Wc : Nat → Shared → ZK) (n : Nat) (s0 : Shared) (c : Code) (fs : List Frame) (K : Flow → Sem PySem.Fin) (J : Value → Sem PySem.Fin) (gd : Bool → Bool) (lv : List Value → List Value) (s : Shared), Wc k s0 = Z →
  GqC X F ip Wc A c fs gd → n + k = sizeLine → GqK X F ip A R PY Wc c fs K J D → GF X F ip σ H s0 s → Seg (model X.prog X.w) A R (GqY X F PY Wc) n s0 c ((execs st X.env).wrap K J gd lv) fs s)
section
variable {X : Cx} [WW X.w] {st : Stmt} {sts : List Stmt} {PY : PYK} {Z : ZK} {k : Nat} {σ : L2.St} {H : Hp} {D : GqEnds}
end
def FZ (X : Cx) (O O' : List Nat) (st : Stmt) (G : List D → Env → Option GO) : Prop := MonoG G ∧
  ∀ (φ : Nat → Option Addr) (Hf0 H0 : Hp) (ρ : Env) (σ : L2.St) (Hf H : Hp) (acc : List D) (Z : ZK) (out : GO) (Dn : GqEnds) (PY : PYK), SR X.K φ Hf0 H0 O ρ σ Hf H → MonoZ Z → Z Hf → G acc ρ = some out → PYok X.K φ Hf0 H0 PY out.out → ZPost X.K φ Hf0 H0 O' Hf Dn out → wZ X st PY Dn Z acc.length σ H
def FZs (X : Cx) (O O' : List Nat) (sts : List Stmt) (G : List D → Env → Option GO) : Prop := MonoG G ∧
  ∀ (φ : Nat → Option Addr) (Hf0 H0 : Hp) (ρ : Env) (σ : L2.St) (Hf H : Hp) (acc : List D) (Z : ZK) (out : GO) (Dn : GqEnds) (PY : PYK), SR X.K φ Hf0 H0 O ρ σ Hf H → MonoZ Z → Z Hf → G acc ρ = some out → PYok X.K φ Hf0 H0 PY out.out → ZPost X.K φ Hf0 H0 O' Hf Dn out → wZs X sts PY Dn Z acc.length σ H
section
variable {X : Cx} [WW X.w] {O O' O1 : List Nat} {st : Stmt} {sts : List Stmt} {e : Expr} {pos yp : Pos} {F : Env → Option D} {G G2 : List D → Env → Option GO}
end
def spZ (K : PySem.W.Frag) (n : Nat) (m : List D → Option (List D)) : SpQ := fun vs H Hf PY Q => ∃ (φ : Nat → Option Addr) (ds out : List D), Same Hf H ∧ RpAll K φ Hf ds vs ∧ ds.length = n ∧ m ds = some out ∧ PYok K φ Hf H PY out ∧ ∀ Z Hf' H', MonoZ Z → Gr Hf H Hf' H' → Z Hf' → Q Z out.length H'
structure CalZM (P : Program) (w : World) (K : PySem.W.Frag) (mg : Str → Option Value) (base : Heap) (k : Nat) (c m : Str) (n : Nat) (mir : List D → Option (List D)) : Prop where
  ok : ∃ (f : Addr) (fd : FuncData) (ps : List Str), QFn P w K mg base k f fd ps (spZ K n mir) ∧ Cls K (He.ga K c) ∧ Meth K (He.ga K c) m f ∧ Binds K fd ps []
section
variable {P : Program} {w : World} [WW w] {K : PySem.W.Frag} {mg : Str → Option Value} {base : Heap} {k : Nat} {ps N : List Str} {c m q : Str} {st : Stmt} {G : List D → Env → Option GO} {kws : List (Str × V)}
end
end FL
namespace FL
variable [HW]
open PySem PySem.Spec L2 PyProof.Rows

/-! ### expressions that leave the generators and all that stands in the heap as they are -/
structure Kp (s s' : Shared) : Prop where
  os : s'.os = s.os
  gens : s'.gens = s.gens
  keep : ∀ b o, s.heap.get? b = some o → s'.heap.get? b = some o
theorem Kp.refl (s : Shared) : Kp s s := ⟨rfl, rfl, fun _ _ e => e⟩
theorem Kp.trans {s s1 s2 : Shared} (a : Kp s s1) (b : Kp s1 s2) : Kp s s2 := ⟨b.os.trans a.os, b.gens.trans a.gens, fun c o e => b.keep c o (a.keep c o e)⟩
def QL (X : Cx) (O : List Nat) (e : Expr) (F : Env → Option D) : Prop :=
  ∀ (φ : Nat → Option Addr) (Hf0 H0 : Hp) (ρ : Env) (σ : L2.St) (Hf H : Hp) (d : D), SR X.K φ Hf0 H0 O ρ σ Hf H → F ρ = some d → ∀ pins s, Inv X pins σ H s →
    wpAny (model X.prog X.w) X.A (eval e X.env) (fun u s' => Kp s s' ∧ Inv X pins σ H s' ∧ ∃ v, RelV v u ∧ Rp X.K φ Hf d v) X.xe s
def QB (X : Cx) (O : List Nat) (e : Expr) (F : Env → Option D) : Prop :=
  ∀ (φ : Nat → Option Addr) (Hf0 H0 : Hp) (ρ : Env) (σ : L2.St) (Hf H : Hp) (d : D), SR X.K φ Hf0 H0 O ρ σ Hf H → F ρ = some d → ∀ pins s, Inv X pins σ H s →
    wpAny (model X.prog X.w) X.A (eval e X.env) (fun u s' => Kp s s' ∧ ∃ v Hf' H', Gr Hf H Hf' H' ∧ Inv X pins σ H' s' ∧ RelV v u ∧ Rpb X.K φ Hf' H' d v) X.xe s
def QA (X : Cx) (O : List Nat) (es : List Expr) (F : Env → Option (List D)) : Prop :=
  ∀ (φ : Nat → Option Addr) (Hf0 H0 : Hp) (ρ : Env) (σ : L2.St) (Hf H : Hp) (ds : List D), SR X.K φ Hf0 H0 O ρ σ Hf H → F ρ = some ds → ∀ pos pins s, Inv X pins σ H s →
    wpAny (model X.prog X.w) X.A (spliced (backTo pos (starEach es X.env))) (fun us s' => Kp s s' ∧ Inv X pins σ H s' ∧ ∃ vs, Vals vs us ∧ RpAll X.K φ Hf ds vs) X.xe s
def QT (X : Cx) (O : List Nat) (e : Expr) (F : Env → Option Bool) : Prop :=
  ∀ (φ : Nat → Option Addr) (Hf0 H0 : Hp) (ρ : Env) (σ : L2.St) (Hf H : Hp) (b : Bool), SR X.K φ Hf0 H0 O ρ σ Hf H → F ρ = some b → ∀ pins s, Inv X pins σ H s →
    wpAny (model X.prog X.w) X.A (isTrue e X.env (eval e X.env)) (fun b' s' => b' = b ∧ Kp s s' ∧ ∃ Hf' H', Gr Hf H Hf' H' ∧ Inv X pins σ H' s') X.xe s
def QW (X : Cx) (O : List Nat) (e : Expr) (F : Env → Option Bool) : Prop :=
  ∀ (φ : Nat → Option Addr) (Hf0 H0 : Hp) (ρ : Env) (σ : L2.St) (Hf H : Hp) (b : Bool), SR X.K φ Hf0 H0 O ρ σ Hf H → F ρ = some b → ∀ whole pins s, Inv X pins σ H s →
    wpAny (model X.prog X.w) X.A (isTrue e X.env whole) (fun b' s' => b' = b ∧ Kp s s' ∧ ∃ Hf' H', Gr Hf H Hf' H' ∧ Inv X pins σ H' s') X.xe s
section
variable {X : Cx} [WW X.w] {O : List Nat} {a b e : Expr} {es : List Expr} {pos : Pos} {F G : Env → Option D} {Fs : Env → Option (List D)}
theorem Inv.kp {pins : List (Addr × Obj)} {σ : L2.St} {H : Hp} {s : Shared} {t' : Nat} (I : Inv X pins σ H s) : Inv X pins σ H { s with toks := t' } := I.tok _
def ixT (x y : D) : Option D := match x, y with | .tup xs, .int i => atI xs i | _, _ => none
def inQ (neg : Bool) (x y : D) : Option D := match seqD y with
  | some xs => if isLst y && okD x && okD y then some (.bl (neg != xs.any fun z => deq z x)) else none
  | none => none
def eqQ (x y : D) : Option D := if okD x && okD y then some (.bl (deq x y)) else none
end
end FL
namespace FL
variable [HW]
open PySem PySem.Spec L2 PyProof.Rows GenW

/-! ### o.m(..) as a generator that a comprehension will turn -/
def PYs (K : PySem.W.Frag) (φ : Nat → Option Addr) (Hf H : Hp) (out : List D) : PYK := fun k x Hf' H' => ∃ acc d, acc.length = k ∧ Gr Hf H Hf' H' ∧ Rp K φ Hf' d x ∧ (acc ++ [d]) <+: out
def Qs (Hf H : Hp) (out : List D) : CtK := fun Z k H' => ∃ Hf', Gr Hf H Hf' H' ∧ Z Hf' ∧ k = out.length
def QGn (X : Cx) (O : List Nat) (j : Nat) (e : Expr) (F : Env → Option (List D)) : Prop :=
  ∀ (φ : Nat → Option Addr) (Hf0 H0 : Hp) (ρ : Env) (σ : L2.St) (Hf H : Hp) (out : List D), SR X.K φ Hf0 H0 O ρ σ Hf H → F ρ = some out → ∀ pins s, Inv X pins σ H s →
    wpAny (model X.prog X.w) X.A (eval e X.env) (fun u s' => ∃ Hf1 H1 sc, Gr Hf H Hf1 H1 ∧ Inv X pins σ H1 sc ∧ QMade X.prog X.w j X.stack H1 Hf1 sc (PYs X.K φ Hf1 H1 out) (Qs Hf1 H1 out) (fun _ _ _ => False) u s') X.xe s
section
variable {X : Cx} [WW X.w] {O : List Nat} {es : List Expr} {e o : Expr} {c m : Str} {pos pos' apos : Pos} {Fo : Env → Option D} {Fs : Env → Option (List D)} {k j n : Nat} {mir : List D → Option (List D)}
end

/-! ### the block of such a comprehension -/
section
variable {X : Cx} [WW X.w] {pins : List (Addr × Obj)} {σ0 σ : L2.St} {H1 H3 H Hc Hn : Hp} {sc s3 s s1 : Shared} {scope : Scope} {cenv : PySem.Env}
end
end FL
namespace FL
variable [HW]
open PySem PySem.Spec L2 PyProof.Rows GenW

def QTs (X : Cx) (O : List Nat) (ifs : List Expr) (F : Env → Option Bool) : Prop :=
  ∀ (φ : Nat → Option Addr) (Hf0 H0 : Hp) (ρ : Env) (σ : L2.St) (Hf H : Hp) (b : Bool), SR X.K φ Hf0 H0 O ρ σ Hf H → F ρ = some b → ∀ pins s, Inv X pins σ H s →
    wpAny (model X.prog X.w) X.A (forIn ifs true fun c r => if r = true then do let ok ← isTrue c X.env (eval c X.env); pure (ForInStep.yield ok) else pure (ForInStep.yield r)) (fun b' s' => b' = b ∧ Kp s s' ∧ ∃ Hf' H', Gr Hf H Hf' H' ∧ Inv X pins σ H' s') X.xe s
/-! the mirror by parts -/
section
variable {g : D → Env → Option Env} {T : Env → Option Bool} {E : Env → Option D} {ρ : Env}
end
section
variable {X : Cx} [WW X.w] {O : List Nat}
end
end FL
namespace FL
variable [HW]
open PySem PySem.Spec L2 PyProof.Rows

/-! ### a call whose value is a dict that no one changes any more: it is fixed for good at once -/
def ownF (mir : List D → List Ob → Option (D × List Ob)) : List D → Option D := fun ds => if noObs ds = true then (match mir ds [] with
  | some (.obj n, S) => (match S[n]? with
    | some o => if o.k = .dkt ∧ noObs o.xs = true then some (.dkt true (o.xs.take (o.xs.length / 2)) (o.xs.drop (o.xs.length / 2))) else none
    | none => none)
  | some (d, _) => if noOb d = true then some d else none
  | none => none) else none
section
variable {X : Cx} [WW X.w] {O : List Nat} {es : List Expr} {e : Expr} {x : Str} {p pos : Pos} {Fs : Env → Option (List D)} {k j n : Nat} {mir : List D → List Ob → Option (D × List Ob)}
end
/-! ### for k in such a dict -/
/-! ### quiet: k in such a dict -/
section
variable {X : Cx} [WW X.w] {O : List Nat} {a b : Expr} {pos : Pos} {F G : Env → Option D}
end
end FL
namespace FL
variable [HW]
open PySem PySem.Spec PyProof.Rows

/-! ### repr of nested tuples: some bounded text -/
def RSome (P : Program) (w : World) (h₀ : Heap) (d : Nat) (x : Value) (L : Nat) : Prop :=
  ∀ (base : Nat), base + L ≤ sizeLine → ∀ (A : Around) (E : Value → Shared → Prop) (s : Shared) (Q : Str → Shared → Prop), A.units + d < cLine → (∀ b o, h₀.get? b = some o → s.heap.get? b = some o) →
    (∀ (t : Str) (tk : Tok), t.length ≤ L → Q t { s with toks := tk }) → wpAny (model P w) A (pyReprUnder base x) Q E s
theorem RSome.of_is {P : Program} {w : World} [WW w] {h₀ : Heap} {d : Nat} {x : Value} {t : Str} {L : Nat} (h : ReprIs P w x t) (hl : t.length ≤ L) : RSome P w h₀ d x L :=
  fun base hb A E s Q _ _ hQ => h base (by omega) A E s Q fun tk => hQ t tk hl
inductive RSomes (P : Program) (w : World) (h₀ : Heap) (d : Nat) : List Value → Nat → Prop
  | nil : RSomes P w h₀ d [] 0
  | cons {x : Value} {xs : List Value} {L M : Nat} : RSome P w h₀ d x L → RSomes P w h₀ d xs M → RSomes P w h₀ d (x :: xs) (L + 2 + M)
section
variable {P : Program} {w : World} [WW w] {h₀ : Heap} {d : Nat}
theorem rs_fold {A : Around} {E : Value → Shared → Prop} (hu : A.units + d < cLine) : ∀ (l : List Value) (M : Nat) (acc : Array Str) (n : Nat) (s : Shared) (Q : (Array Str × Nat) → Shared → Prop), RSomes P w h₀ d l M → n + M ≤ sizeLine →
    (∀ b o, h₀.get? b = some o → s.heap.get? b = some o) → (∀ (ts : List Str) (tk : Tok), ts.length = l.length → piled ts ≤ M → Q ⟨acc ++ ts.toArray, n + piled ts⟩ { s with toks := tk }) →
    wpAny (model P w) A (forIn l (⟨acc, n⟩ : (Array Str × Nat)) tupBody) Q E s := by
  intro l
  induction l with
  | nil =>
    intro M acc n s Q hT _ _ h
    cases hT
    have h0 := h [] s.toks rfl (Nat.le_refl _)
    simp only [List.forIn_nil]
    exact wpAny_pure (by simpa [piled] using h0)
  | cons x l ih =>
    intro M acc n s Q hT hn hk0 h
    cases hT with
    | @cons _ _ L M' hx hl =>
      rw [List.forIn_cons]
      refine wpAny_bind (wpAny_bind (hx (n + 1) (by omega) _ _ _ _ hu hk0 fun t tk ht => wpAny_pure ?_))
      refine ih M' (acc.push t) (n + (t.length + 2)) _ Q hl (by omega) hk0 fun ts tk' hts hp => ?_
      have h1 := h (t :: ts) tk' (by rw [List.length_cons, List.length_cons, hts]) (by rw [piled_cons]; omega)
      have e : n + piled (t :: ts) = n + (t.length + 2) + piled ts := by rw [piled_cons]; omega
      rw [e] at h1
      simpa using h1
theorem tt_len (ts : List Str) : (tupleText ts).length ≤ piled ts + 3 := by
  unfold tupleText
  rw [strLen_append, strLen_append]
  have e1 : ((("(" : String) : Str)).length = 1 := rfl
  have e3 : (((if ts.length == 1 then ",)" else ")" : String) : Str)).length ≤ 2 := by split <;> decide
  rw [e1]
  by_cases h : ts = []
  · subst h
    have : (Str.join ", " ([] : List Str)).length = 0 := rfl
    omega
  · have := join_length_add ts h
    omega
theorem rs_rest {A : Around} {E : Value → Shared → Prop} {s : Shared} {a : Addr} {o : Obj} {items : Array Value} {n b M : Nat} {Q : Fin → Shared → Prop} (hu : A.units + d < cLine) (ha : s.heap.get? a = some o) (hd : o.data = .seq items n)
    (hT : RSomes P w h₀ d items.toList M) (hk0 : ∀ b o, h₀.get? b = some o → s.heap.get? b = some o) (h : ∀ t u tk, t.length ≤ M + 5 → Q (.done (.ret (.str t u))) { s with toks := tk }) (hsz : b + (M + 5) ≤ sizeLine) :
    wpAny (model P w) A (tupleReprRest b (.ref a)) Q E s := by
  unfold tupleReprRest Builtin.Tuple.tupleItemsOf
  refine wpAny_bind (wpAny_bind (wpAny_seqItems ha hd (wpAny_pure ?_)))
  rw [← Array.forIn_toList]
  refine wpAny_bind (rs_fold hu _ M _ _ _ _ hT (by omega) hk0 fun ts tk hts hp => ?_)
  have hl := tt_len ts
  have hlen : ts.length = items.size := by simpa using hts
  refine wpAny_bind (wpAny_mkStr (wpAny_pure ?_) (by
    have : (tupleText ts).length ≤ sizeLine := by omega
    simpa [tupleText, hlen] using this))
  have h1 := h (tupleText ts) tk (tk + 1) (by omega)
  simpa [tupleText, hlen] using h1
theorem rs_at {A : Around} {E : Value → Shared → Prop} {s : Shared} {a : Addr} {o : Obj} {items : Array Value} {n b M : Nat} {Q : Fin → Shared → Prop} (hu : A.units + d < cLine) (ha : s.heap.get? a = some o) (hd : o.data = .seq items n)
    (hT : RSomes P w h₀ d items.toList M) (hk0 : ∀ b o, h₀.get? b = some o → s.heap.get? b = some o) (h : ∀ t u tk, t.length ≤ M + 5 → Q (.done (.ret (.str t u))) { s with toks := tk }) (hsz : b + (M + 5) ≤ sizeLine) :
    wpAny (model P w) A (Builtin.tupleReprAt b ⟨[.ref a], []⟩) Q E s := by
  rw [tuple_repr_tree]
  refine wpAny_bind (fmt_underWay fun c => ?_)
  cases c with
  | true =>
    refine PySem.W.KFB.if_so rfl ?_
    refine wpAny_bind (wpAny_rule ?_)
    refine wpAny_bind (wpAny_mkStr (wpAny_pure ?_) (by decide +kernel))
    exact h "(...)" _ _ (Nat.le_trans fmt_way (Nat.le_add_left _ _))
  | false =>
    refine PySem.W.KFB.if_not rfl ?_
    exact rs_rest hu ha hd hT hk0 h hsz
theorem rs_tup {a : Addr} {o : Obj} {items : Array Value} {n M : Nat} (ha : h₀.get? a = some o) (hc : o.cls = .type "tuple") (hd : o.data = .seq items n) (hT : RSomes P w h₀ d items.toList M) : RSome P w h₀ (d + 1) (.ref a) (M + 5) := by
  intro base hb A E s Q hu hk0 hQ
  have hT' : s.TypeIs (.ref a) "tuple" := ⟨o, hk0 _ _ ha, hc⟩
  refine wpAny_pyReprUnder_ref (by omega) (wpAny_pyReprObjUnder_twin (twin := "tuple.__repr__.under") hT' F.slot_tuple_repr rfl (by omega) ?_)
  refine call_twin_own (F.quiet_tuple_repr_under _) F.entry_tuple_repr_under F.check_tuple_repr_under hT' F.slot_tuple_repr (F.args_tuple_repr_1 _) (wpOwn_of_wpAny ?_)
  refine rs_at (by rw [units_under_tuple_repr_under]; omega) (hk0 _ _ ha) hd hT hk0 (fun t u tk ht => ?_) hb
  exact ⟨⟨_, _, rfl⟩, _, _, rfl, hQ t tk ht⟩
def RTop (P : Program) (w : World) (h₀ : Heap) (d : Nat) (x : Value) (L : Nat) : Prop :=
  ∀ (A : Around) (E : Value → Shared → Prop) (s : Shared) (Q : Value → Shared → Prop), A.units + d < cLine → (∀ b o, h₀.get? b = some o → s.heap.get? b = some o) →
    (∀ (t : Str) (u tk : Tok), t.length ≤ L → Q (.str t u) { s with toks := tk }) → wpAny (model P w) A (pyReprObj x) Q E s
theorem rt_tup {a : Addr} {o : Obj} {items : Array Value} {n M : Nat} (ha : h₀.get? a = some o) (hc : o.cls = .type "tuple") (hd : o.data = .seq items n) (hT : RSomes P w h₀ d items.toList M) (hz : M + 5 ≤ sizeLine) : RTop P w h₀ (d + 1) (.ref a) (M + 5) := by
  intro A E s Q hu hk0 hQ
  have hTy : s.TypeIs (.ref a) "tuple" := ⟨o, hk0 _ _ ha, hc⟩
  unfold pyReprObj
  refine wpAny_bind (wpAny_cRoomFor (by omega) ?_)
  refine wpAny_bind (wpAny_specialOf (name := Str.ofString "__repr__") hTy F.slot_tuple_repr.lookup ?_)
  refine wpAny_bind (m := callSpecialIfBound? (.ref a) (Str.ofString "__repr__")) (wpAny_callSpecialIfBound?_slotG (name := Str.ofString "__repr__") hTy F.slot_tuple_repr
    (wpAny_call (codeAny_call_builtin_own (Code.quiet_builtin _ (by decide +kernel)) F.entry_tuple_repr (F.slot_tuple_repr.check _ _ _ _ _ _ _ _ hTy (F.args_tuple_repr_1 _) (wpOwn_of_wpAny ?_)))))
  refine rs_at (by rw [units_under_tuple_repr]; omega) (hk0 _ _ ha) hd hT hk0 (fun t u tk ht => ?_) (by omega)
  exact wpAny_bind (wpAny_isInstance (T := "str") (b := true) rfl isSubtype_str_str (wpAny_pure (hQ t u tk ht)))
end
/-! the data whose repr is asked -/
mutual
def rLen : PyData → Option (Nat × Nat)
  | .none => some (4, 0)
  | .bool _ => some (5, 0)
  | .int i => if i.natAbs.log2 < 1920 ∧ (toString i : Str).length ≤ 1000 then some (1000, 0) else none
  | .str x => if (reprText x).length ≤ 20000 then some (20000, 0) else none
  | .tuple xs => match rLens xs with | some (m, d) => some (m + 5, d + 1) | none => none
  | _ => none
def rLens : List PyData → Option (Nat × Nat)
  | [] => some (0, 0)
  | x :: xs => match rLen x, rLens xs with | some (l, d), some (m, d') => some (l + 2 + m, max d d') | _, _ => none
end
theorem RSome.deep {P : Program} {w : World} [WW w] {h₀ : Heap} {d d' : Nat} {x : Value} {L : Nat} (h : RSome P w h₀ d x L) (hd : d ≤ d') : RSome P w h₀ d' x L :=
  fun base hb A E s Q hu hk hq => h base hb A E s Q (by omega) hk hq
theorem RSomes.deep {P : Program} {w : World} [WW w] {h₀ : Heap} {d d' : Nat} (hd : d ≤ d') : ∀ {xs : List Value} {M : Nat}, RSomes P w h₀ d xs M → RSomes P w h₀ d' xs M
  | _, _, .nil => .nil
  | _, _, .cons a b => .cons (a.deep hd) (b.deep hd)
section
variable {P : Program} {w : World} [WW w] {h₀ : Heap}
theorem s1000 : 20000 ≤ sizeLine := by rw [sizeLine_eq]; decide
mutual
theorem RSome.of_reads : ∀ {v : Value} {d : PyData} {as : List Addr}, Reads h₀ v d as → ∀ {l k : Nat}, rLen d = some (l, k) → RSome P w h₀ k v l
  | _, _, _, .none, l, k, e => by cases e; exact .of_is ReprIs.none (by decide)
  | _, _, _, .bool b, l, k, e => by cases e; exact .of_is (ReprIs.bool b) (by cases b <;> decide)
  | _, _, _, .int i t, l, k, e => by
    unfold rLen at e
    split at e
    · rename_i h
      cases e
      exact .of_is (ReprIs.int t h.1) h.2
    · cases e
  | _, _, _, .str x t, l, k, e => by
    unfold rLen at e
    split at e
    · rename_i h
      cases e
      exact .of_is (ReprIs.str x t (Nat.le_trans h s1000)) h
    · cases e
  | _, _, _, .list .., l, k, e => by cases e
  | _, _, _, .dict .., l, k, e => by cases e
  | _, _, _, .tuple (a := a) (xs := xs) h1 h2 h3 h4, l, k, e => by
    unfold rLen at e
    split at e
    · rename_i m d h
      cases e
      exact rs_tup h1 h2 h3 (RSomes.of_reads h4 h)
    · cases e
theorem RSomes.of_reads : ∀ {vs : List Value} {ds : List PyData} {as : List Addr}, ReadsAll h₀ vs ds as → ∀ {l k : Nat}, rLens ds = some (l, k) → RSomes P w h₀ k vs l
  | _, _, _, .nil, l, k, e => by cases e; exact .nil
  | _, _, _, .cons h t, l, k, e => by
    unfold rLens at e
    split at e
    · rename_i l1 d1 m d2 h1 h2
      cases e
      exact .cons ((RSome.of_reads h h1).deep (Nat.le_max_left _ _)) ((RSomes.of_reads t h2).deep (Nat.le_max_right _ _))
    · cases e
end
end
end FL
namespace FL
variable [HW]
open PySem PySem.Spec PyProof.Rows PySem.W PySem.Calls
open PySem.HandSPX (excO refsVE veTail)

/-! ### __init__ of an own error: super().__init__(f'..{x!r}'), self.f = x -/
def iArgs (par : Str) (p1 p2 : Pos) : Arguments := { posonlyargs := [], args := [{ arg := "self", annotation := none, pos := p1 }, { arg := par, annotation := none, pos := p2 }], vararg := none, kwonlyargs := [], kw_defaults := [], kwarg := none, defaults := [] }
def iBody (par fld txt : Str) (j : Nat) (p0 p1 p2 p3 p4 p5 p6 p7 p8 p9 p10 p11 p12 : Pos) : List Stmt :=
  [.Expr (.Call (.Attribute (.Call (.Name "super" p0) [] [] p1) "__init__" p2) [.JoinedStr [.Constant (.str txt) j p3, .FormattedValue (.Name par p4) 114 none p5] p6] [] p7) p8,
   .Assign [.Attribute (.Name "self" p9) fld p10] (.Name par p11) p12]
def iScope (par : Str) : Scope := { kind := .function, names := [("self", .local), (par, .local), ("__class__", .free), ("super", .globalImplicit)], isGenerator := false, isCoroutine := false, more := [] }
structure OneC (P : Program) (K : Frag) (C fI : Addr) (par fld txt : Str) : Prop where
  q : excInitIn K C veTail "ValueError.__new__" = true
  cd : ∃ cd, clsIn K C = some cd ∧ refsVE cd.mro = true ∧ cd.hasDict = true
  sa : findIn K (.ref C) "__setattr__" = some (some (.builtin "object.__setattr__"))
  noF : findIn K (.ref C) fld = some none
  iC : findIn K (.ref C) "__init__" = some (some (.ref fI))
  tI : typeIn K (.ref fI) = some (.type "function")
  sup : ks_superIn K C C "__init__" = some (some (.builtin "ValueError.__init__"))
  opq : nsIn K cStatics "thirdparty.any" = some none
  isV : subIn K (.ref C) (.type "ValueError") = some true
  isB : subIn K (.ref C) (.type "BaseException") = some true
  selfC : mroIn K C (.ref C) = some true
  tC : typeIn K (.ref C) = some (.type "type")
  kC : keepIn K (.ref C) = true
  top : (P.main.scope.names.lookup ("super" : Str)).isSome = false
  lp : (iScope par).names.lookup par = some .local
  ls : (iScope par).names.lookup ("super" : Str) = some NameKind.globalImplicit
  lc : (iScope par).names.lookup ("__class__" : Str) = some NameKind.free
  cell : ∀ x ∈ (iScope par).names, x.2 ≠ .cell
  ne : (par == ("self" : Str)) = false
  nd : (par == ("__debug__" : Str)) = false
  fn : ∃ (oc : Value) (od : Option Addr) (qual : Str) (j : Nat) (a1 a2 p0 p1 p2 p3 p4 p5 p6 p7 p8 p9 p10 p11 p12 : Pos) (dV kV doc pm : Value) (an : Option Addr) (cda cc : Addr) (ct : Value) (osl : Array (Option Value)) (co : Value) (cdd : Option Addr) (vs : Array Value) (ccs : Array (Option Value)) (file : Str) (tf : Tok) (cl : Value) (cld : Option Addr) (csl : Array (Option Value)),
    K.lookup fI = some ⟨oc, od, .func (fnX "__init__" qual (iArgs par a1 a2) (iBody par fld txt j p0 p1 p2 p3 p4 p5 p6 p7 p8 p9 p10 p11 p12) (iScope par) [("__class__", cc)] dV kV doc pm an (.ref cda) ct), osl⟩ ∧ codeIn K (.ref cda) qual = true ∧
    K.lookup cda = some ⟨co, cdd, .fields vs, ccs⟩ ∧ vs[2]? = some (.str file tf) ∧ ((P.main.file : Str) == file) = true ∧ K.lookup cc = some ⟨cl, cld, .cell (some (.ref C)), csl⟩ ∧
    (∀ u v : Value, bindArgs (fnX "__init__" qual (iArgs par a1 a2) (iBody par fld txt j p0 p1 p2 p3 p4 p5 p6 p7 p8 p9 p10 p11 p12) (iScope par) [("__class__", cc)] dV kV doc pm an (.ref cda) ct) ⟨[u, v], []⟩ = (pure [(("self" : Str), u), (par, v)] : Sem (List (Str × Value)))) ∧
    (∀ env : PySem.Env, ∃ pl : Sem Bool, eval (.Call (.Attribute (.Call (.Name "super" p0) [] [] p1) "__init__" p2) [.JoinedStr [.Constant (.str txt) j p3, .FormattedValue (.Name par p4) 114 none p5] p6] [] p7) env = (do
      let ov ← attributeBase (.Call (.Name "super" p0) [] [] p1) "__init__" env (eval (.Call (.Name "super" p0) [] [] p1) env)
      standAt p2.atName
      let (f, first) ← holding [ov] (getMethod ov "__init__" pl)
      callWith p7 f first (backTo p7 (starEach [.JoinedStr [.Constant (.str txt) j p3, .FormattedValue (.Name par p4) 114 none p5] p6] env)) [])) ∧
    (∀ env : PySem.Env, swapsWith (.Name par p11) (some (.Attribute (.Name "self" p9) fld p10)) p12.line env = pure false)
structure InitEnd (h h' : Heap) (x C dx t1 : Addr) (fld : Str) (v : Value) : Prop where
  keep : ∀ b o, b ≠ x → h.get? b = some o → h'.get? b = some o
  obj : h'.get? x = some { cls := .ref C, dict := some dx, data := .fields #[.ref t1, .none, .none, .none, .bool false, .none] }
  dbig : h.objs.size ≤ dx
  dne : dx ≠ x
  ns : h'.Ns1 dx (fun y => if y = fld then some v else none)
section
variable {P : Program} {w : World} [WW w] {A : Around} {E : Value → Shared → Prop} {R : Result → Shared → Prop} {K : Frag} {mg : Str → Option Value} {C fI : Addr} {par fld txt : Str}
theorem kept_in {h h' : Heap} {x : Addr} (X : K.In h) (hx : K.lookup x = none) (k : ∀ b o, b ≠ x → h.get? b = some o → h'.get? b = some o) : K.In h' := fun a o e =>
  k a o (fun z => by rw [z, hx] at e; cases e) (X a o e)
theorem mw_call {h : Heap} {g : Array GenState} {d : Drawn} {tk : Nat} {os : OsState} {u x t : Addr} {rest : List Value} {Q : Value → Shared → Prop} (X : K.In h) (q : excInitIn K C veTail "ValueError.__new__" = true)
    (hu : h.get? u = some (kxs_mw "ValueError.__init__" x)) (he : h.get? x = some (excObj C t none .none)) (hz : rest.length ≤ sizeLine)
    (hq : ∀ h', (∀ b o, b ≠ x → h.get? b = some o → h'.get? b = some o) → h'.get? x = some (excObj C h.objs.size none .none) → Q .none ⟨h', g, d, tk, os⟩) :
    wpAny (model P w) A (call (.ref u) rest) Q E ⟨h, g, d, tk, os⟩ := by
  obtain ⟨nm, N', qn, bs, bm, hdct, sn, sub, ab, col, dd, k0, k1, k2, k3, k5, hC, hT⟩ := excInit_of X q
  refine wpAny_call (codeAny_of_tree ?_)
  show wpAny _ A.in1 (callAny (.ref u) ⟨rest, []⟩) _ _ _
  simp only [callAny]
  refine wpAny_bind (wpAny_load hu ?_)
  simp only [kxs_mw, show (Value.type "method-wrapper" == Value.type "method" || Value.type "method-wrapper" == Value.type "builtin_function_or_method" || Value.type "method-wrapper" == Value.type "method-wrapper") = true by decide, if_true]
  refine KFB.if_so (by decide) ?_
  refine wpAny_bind (check_bound_init F.excBase_ValueError.toExcCallFacts hC he rfl ?_)
  refine wpAny_bind (wpAny_pure (wpAny_pure ?_))
  refine ⟨plainId_quiet F.excBase_ValueError.init.plain _, codeAny_builtin F.excBase_ValueError.initEntry ?_⟩
  exact exc_init_tree (cls := .ref C) (t0 := t) (dv := none) (c2 := .none) (c3 := .none) (b4 := .bool false) he hz fun h' k e' t' => hq h' k e'
theorem one_init (T : OneC P K C fI par fld txt) {s : Shared} {x t0 L : Nat} {v : Value} (X : K.In s.heap) (hlim : s.heap.NoLimit) (hg : s.heap.Ns mainGlobals mg) (hb : ∃ mb, s.heap.Ns builtinsNs mb ∧ ∀ y : Str, y ≠ "__name__" → mb y = bootBuiltins y) (hmg : mg "super" = none)
    (hx : s.heap.get? x = some (excO C t0)) (hnx : K.lookup x = none) (hroom : A.depth < recursionLimit) (hu : A.units + 80 < cLine) (hrep : RTop P w s.heap 64 v L) (hL : txt.length + L ≤ sizeLine)
    (hq : ∀ h' tk dx t1, InitEnd s.heap h' x C dx t1 fld v → R (.ok (.ret .none)) { s with heap := h', toks := tk }) :
    codeAny (model P w) A (.call (.ref fI) ⟨[.ref x, v], []⟩) R s := by
  obtain ⟨oc, od, qual, j, a1, a2, p0, p1, p2, p3, p4, p5, p6, p7, p8, p9, p10, p11, p12, dV, kV, doc, pm, an, cda, cc, ct, osl, co, cdd, vs, ccs, file, tf, cl, cld, csl, hf, hcd, hcode, hvs, hfile, hcell, hbind, hev, hsw⟩ := T.fn
  obtain ⟨cd, hcl, hmro, hdct⟩ := T.cd
  have ls1 : ∀ a b : Value, ([(("self" : Str), a), (par, b)] : List (Str × Value)).reverse.lookup ("self" : Str) = some a := fun a b => by
    have h1 : (("self" : Str) == par) = false := by
      rw [Bool.eq_false_iff]
      intro z
      have := T.ne
      rw [eq_of_beq z, beq_self_eq_true] at this
      cases this
    simp [List.lookup, h1]
  have ls2 : ∀ a b : Value, ([(("self" : Str), a), (par, b)] : List (Str × Value)).reverse.lookup par = some b := fun a b => by simp [List.lookup]
  refine ks_codeAny_call_defAt (fd := fnX "__init__" qual (iArgs par a1 a2) (iBody par fld txt j p0 p1 p2 p3 p4 p5 p6 p7 p8 p9 p10 p11 p12) (iScope par) [("__class__", cc)] dV kV doc pm an (.ref cda) ct) (body := iBody par fld txt j p0 p1 p2 p3 p4 p5 p6 p7 p8 p9 p10 p11 p12) (binds := [("self", .ref x), (par, v)]) hroom (X _ _ hf) rfl hlim (codeRec_of X hcd) rfl (BindsTo.of_eq (hbind _ _)) T.cell (fun y hy => ?_) (fun h₀ hns hk => ?_)
  · simp only [List.mem_cons, List.not_mem_nil, or_false] at hy
    rcases hy with rfl | rfl
    · rfl
    · exact T.lp
  have X0 : K.In h₀ := X.keeps hk
  have hsz : s.heap.objs.size ≠ x := Nat.ne_of_gt (Heap.lt_size hx)
  show _root_.PySem.wpAt (model P w) _ (.func _ (ksEnv qual (iScope par) s.heap.objs.size fI (.ref cda) cc)) (execs (iBody par fld txt j p0 p1 p2 p3 p4 p5 p6 p7 p8 p9 p10 p11 p12) (ksEnv qual (iScope par) s.heap.objs.size fI (.ref cda) cc)) _ _ _
  unfold iBody
  obtain ⟨pl, hev⟩ := hev (ksEnv qual (iScope par) s.heap.objs.size fI (.ref cda) cc)
  refine ks_wpAt_execs_cons (ks_wpAt_Expr_any (ks_wpAt_MethodCall (pl := pl) ?_ hev))
  obtain ⟨oD, hD1, hD2⟩ : ∃ oD, h₀.get? C = some oD ∧ oD.data = .cls cd := by
    unfold clsIn at hcl
    split at hcl
    · rename_i c d cd' sl ho
      cases hcl
      exact ⟨_, X0 _ _ ho, rfl⟩
    · cases hcl
  refine ks_wpAt_super_base (env := ksEnv qual (iScope par) s.heap.objs.size fI (.ref cda) cc) T.ls T.lc rfl rfl (X0 _ _ hf) rfl (ar := { arg := "self", annotation := none, pos := a1 }) rfl rfl (X0 _ _ hcode) rfl hvs hfile T.top ?_
  obtain ⟨mb, hb1, hb2⟩ := hb
  refine ks_loadName_global rfl T.ls (loadGlobal_builtin (env := ksEnv qual (iScope par) s.heap.objs.size fI (.ref cda) cc) (hg.keeps hk) hmg (hb1.keeps hk) ((hb2 "super" (by decide)).trans (show bootBuiltins "super" = some (.type "super") by kernel_rfl)) ⟨rfl, ?_⟩)
  refine wpAny_loadName_free rfl T.lc rfl ⟨_, X0 _ _ hcell, rfl⟩ ?_
  refine wpAny_loadName_local rfl (show (iScope par).names.lookup ("self" : Str) = some NameKind.local from rfl) hns (ls1 _ _) ?_
  refine ks_wpAny_isType_cls hD1 hD2 ⟨rfl, ?_⟩
  have hx0 := hk _ _ hx
  refine ks_wpAny_call_super hD1 hD2 hx0 rfl (fun c e => ?_) (looks_mroIn X0 T.selfC) (fun h1 e1 k1 => ?_)
  · cases e
  have X1 : K.In h1 := X0.keeps k1
  have hxC : x ≠ C := fun z => by
    rw [z] at hx0
    rw [hD1] at hx0
    cases hx0
    cases hD2
  have I1 : InstAt h1 x (excO C t0) C none := ⟨k1 _ _ hx0, rfl, rfl, trivial⟩
  refine kxs_getMethod kxs_ValueError e1 (looks_opaque X1 T.opq) (l₀ := cd.mro) (fun A Q E s k q => wpAny_bind ((looks_clsIn X1 hcl) A _ E s k (wpAny_pure q))) rfl X1 (by have := T.sup; unfold ks_superIn at this; rw [hcl] at this; exact this) (I1.type.andThen (looks_subIn X1 T.isV)) hxC rfl ?_
  have k2 : ∀ b o, h1.get? b = some o → (h1.push (kxs_mw "ValueError.__init__" x)).get? b = some o := fun b o e => Heap.get?_push_of_some _ e
  have hu2 : (h1.push (kxs_mw "ValueError.__init__" x)).get? h1.objs.size = some (kxs_mw "ValueError.__init__" x) := Heap.get?_push_at rfl rfl
  have kA : ∀ b o, s.heap.get? b = some o → (h1.push (kxs_mw "ValueError.__init__" x)).get? b = some o := fun b o e => k2 _ _ (k1 _ _ (hk _ _ e))
  refine kxs_callWith (i := "ValueError.__init__") (x := x) rfl (evalArgs_plain (spliced_cons (wpAny_JoinedStr (pos := p6) ?_)))
  refine wpAny_Constant_str ⟨txt, _, rfl, ?_, ?_⟩
  · have e0 : (Str.empty ++ txt) = txt := by
      obtain ⟨c⟩ := txt
      show Str.mk (#[] ++ c) = _
      rw [Array.empty_append]
    rw [e0]
    omega
  refine wpAny_FormattedValue_repr (wpAny_Name (wpAny_loadName_local rfl T.lp (m := fun y => ([(("self" : Str), Value.ref x), (par, v)] : List (Str × Value)).reverse.lookup y) ?_ (ls2 _ _) ?_) T.nd)
  · exact (hns.keeps k1).keeps k2
  refine hrep _ _ _ _ (by show A.units + 3 + 64 < cLine; omega) kA fun t u tk ht => ?_
  have hl1 : (Str.empty ++ txt).length ≤ txt.length := by
    rw [strLen_append]
    have : Str.empty.length = 0 := rfl
    omega
  have hl2 : ((Str.empty ++ txt) ++ t).length ≤ sizeLine := by
    rw [strLen_append]
    omega
  refine wpAny_formatField_str ?_ ?_ (by omega)
  all_goals
    refine ⟨t, _, rfl, hl2, hl2, spliced_nil ⟨hu2, mw_call (X1.keeps k2) T.q hu2 (k2 _ _ (k1 _ _ hx0)) (show 1 ≤ sizeLine by rw [sizeLine_eq]; decide) (fun h3 k3 e3 => ?_)⟩⟩
    have k3s : ∀ b o, b ≠ x → s.heap.get? b = some o → h3.get? b = some o := fun b o hb e => k3 b o hb (kA b o e)
    have X3 : K.In h3 := kept_in X hnx k3s
    have hns1 : (h1.push (kxs_mw "ValueError.__init__" x)).Ns s.heap.objs.size (fun y => ([(("self" : Str), Value.ref x), (par, v)] : List (Str × Value)).reverse.lookup y) := (hns.keeps k1).keeps k2
    have hns3 : h3.Ns s.heap.objs.size (fun y => ([(("self" : Str), Value.ref x), (par, v)] : List (Str × Value)).reverse.lookup y) := hns1.at fun o e => k3 _ _ hsz e
    refine wpAt_of_wpAny (wpAny_execs_cons (plainObj_wpAny_Assign_Attribute ?_ (hsw _)))
    refine wpAny_Name (wpAny_loadName_local (m := fun y => ([(("self" : Str), Value.ref x), (par, v)] : List (Str × Value)).reverse.lookup y) rfl T.lp hns3 (ls2 _ _) ?_) T.nd
    refine wpAny_Name (wpAny_loadName_local (m := fun y => ([(("self" : Str), Value.ref x), (par, v)] : List (Str × Value)).reverse.lookup y) rfl (show (iScope par).names.lookup ("self" : Str) = some NameKind.local from rfl) hns3 (ls1 _ _) ?_)
    refine set_plain X3 (ox := excO C (h1.push (kxs_mw "ValueError.__init__" x)).objs.size) (od := none) ⟨e3, rfl, rfl, trivial⟩ T.sa ?_
    refine HandSPX.exc_osa X3 e3 hcl hmro hdct T.noF (fun h4 tk4 dx k4 dn dne hx4 hn4 => ?_)
    refine wpAny_execs_nil (hq h4 tk4 dx _ ⟨fun b o hb e => k4 b o hb (k3s b o hb e), hx4, ?_, dne, hn4⟩)
    exact Nat.le_of_lt (Nat.lt_of_lt_of_le hns3.lt dn)
structure OwnMade (h h' : Heap) (e C d : Addr) (fld : Str) (v : Value) : Prop where
  keep : ∀ b o, h.get? b = some o → h'.get? b = some o
  new : h.objs.size ≤ e
  obj : ∃ oe vs, h'.get? e = some oe ∧ oe.cls = .ref C ∧ oe.dict = some d ∧ oe.data = .fields vs ∧ vs[1]? = some .none ∧ vs[2]? = some .none ∧ 4 < vs.size
  dbig : h.objs.size ≤ d
  dne : d ≠ e
  ns : h'.Ns1 d (fun y => if y = fld then some v else none)
theorem RTop.keeps {h h' : Heap} {d L : Nat} {v : Value} (r : RTop P w h d v L) (k : ∀ b o, h.get? b = some o → h'.get? b = some o) : RTop P w h' d v L :=
  fun A E s Q hu hk hq => r A E s Q hu (fun b o e => hk b o (k b o e)) hq
theorem one_made (T : OneC P K C fI par fld txt) {s : Shared} {L : Nat} {v : Value} (X : K.In s.heap) (hlim : s.heap.NoLimit) (hg : s.heap.Ns mainGlobals mg) (hb : ∃ mb, s.heap.Ns builtinsNs mb ∧ ∀ y : Str, y ≠ "__name__" → mb y = bootBuiltins y) (hmg : mg "super" = none)
    (hroom : A.depth + 1 < recursionLimit) (hu : A.units + 100 < cLine) (hrep : RTop P w s.heap 64 v L) (hL : txt.length + L ≤ sizeLine)
    (hq : ∀ h' tk e d, OwnMade s.heap h' e C d fld v → R (.ok (.ret (.ref e))) { s with heap := h', toks := tk }) :
    codeAny (model P w) A (.call (.ref C) ⟨[v], []⟩) R s := by
  obtain ⟨nm, N', qn, bs, bm, hdct, sn, sub, ab, col, dd, k0, k1, k2, k3, k5, hC, hT⟩ := excInit_of X T.q
  obtain ⟨hp, g, dr, tk, os⟩ := s
  have k : ∀ b o, hp.get? b = some o → ((hp.push (kdv_tup [v])).push (excO C hp.objs.size)).get? b = some o := fun b o e => Heap.get?_push_of_some _ (Heap.get?_push_of_some _ e)
  have hget : ((hp.push (kdv_tup [v])).push (excO C hp.objs.size)).get? (hp.objs.size + 1) = some (excO C hp.objs.size) := by heap_get
  have hnx : K.lookup (hp.objs.size + 1) = none := by
    cases e : K.lookup (hp.objs.size + 1) with
    | none => rfl
    | some o =>
      have z : hp.get? (hp.objs.size + 1) = some o := X _ _ e
      exact absurd (Nat.lt_of_succ_lt (Heap.lt_size z)) (Nat.lt_irrefl _)
  obtain ⟨mb, hb1, hb2⟩ := hb
  refine HandSPX.call_own F.excBase_ValueError hT hC (looks_findIn X T.iC) (fun self => bind_fn X self T.tI) (show 1 ≤ sizeLine by rw [sizeLine_eq]; decide) ?_
  refine one_init (s := ⟨(hp.push (kdv_tup [v])).push (excO C hp.objs.size), g, dr, tk, os⟩) (mg := mg) T (X.keeps k) (hlim.keeps k) (hg.keeps k) ⟨mb, hb1.keeps k, hb2⟩ hmg hget hnx ?_ ?_ (hrep.keeps k) hL fun h' tk' dx t1 ⟨k', hx, dn, dne, hns⟩ => ?_
  · show A.depth + 1 < recursionLimit
    exact hroom
  · show (A.under _).units + 80 < cLine
    rw [L2.make_units]
    omega
  · have old : ∀ b o, hp.get? b = some o → h'.get? b = some o := fun b o e => k' b o (Nat.ne_of_lt (Nat.lt_succ_of_lt (Heap.lt_size e))) (k b o e)
    have z : hp.objs.size + 1 + 1 ≤ dx := by
      first
        | (simpa only [Heap.size_push] using dn)
        | exact dn
        | (have q := dn; rw [Heap.size_push, Heap.size_push] at q; exact q)
    exact ⟨rfl, hq h' tk' (hp.objs.size + 1) dx ⟨old, Nat.le_succ _, ⟨_, _, hx, rfl, rfl, rfl, rfl, rfl, by simp⟩, Nat.le_trans (Nat.le_trans (Nat.le_succ _) (Nat.le_succ _)) z, dne, hns⟩⟩
end
end FL
namespace FL
variable [HW]
open PySem PySem.Spec L2 PyProof.Rows

/-! ### isinstance of a caught error that has a dict of its own -/
section
open PySem.W PySem.Calls
variable {prog : Program} {w : World} {A : Around} {E : Value → Shared → Prop} {s : Shared} {K : Frag} {x D : Addr} {ox : Obj} {od : Option Obj}
theorem find_dataO {C : Addr} {name : Str} {a g : Value} (hc : (clsIn K C).isSome = true) (ha : findIn K (.ref C) name = some (some a)) (hg : specialIn K a "__get__" = some (some g)) (ht : takesIn K a = some true) : findObj K C od name = some (.bind g a) := by
  obtain ⟨cd, hc⟩ := Option.isSome_iff_exists.mp hc
  unfold findObj
  rw [hc, Option.bind_some, ha, Option.bind_some]
  simp [hg, ht]
theorem class_ofX (hga : findIn K (.ref D) "__getattribute__" = some (some (.builtin "BaseException.__getattribute__"))) (hgt : findIn K (.ref D) "__getattr__" = some none) (hsub : subIn K (.ref D) (.type "BaseException") = some true)
    (hdct : hasDictIn K D = true) (ha : findIn K (.ref D) "__class__" = some (some (.builtin "object.__class__")))
    (hn : specialIn K (.builtin "object.__class__") "__get__" = some (some (.builtin "getset_descriptor.__get__"))) (htk : takesIn K (.builtin "object.__class__") = some true) (hm : mroIn K D (.type "object") = some true)
    {Q : Option Value → Shared → Prop} (X : K.In s.heap) (I : InstAt s.heap x ox D od) (h : Q (some (.ref D)) { s with toks := s.toks + 1 }) : wpAny (model prog w) A (getAttr? (.ref x) "__class__") Q E s := by
  have hf : findObj K D od "__class__" = some (.bind (.builtin "getset_descriptor.__get__") (.builtin "object.__class__")) := find_dataO (by obtain ⟨cd, hc, _⟩ := any_some hdct; rw [hc]; rfl) ha hn htk
  obtain ⟨hp, g, d, t, os⟩ := s
  have L0 := I.type (M := model prog w)
  have L1 := looks_findIn (M := model prog w) X hga
  have L2 := looks_findIn (M := model prog w) X hgt
  have L3 := looks_find (M := model prog w) X I hf
  have sub : Looks (model prog w) hp (isInstance (.ref x) (.type "BaseException")) true := L0.andThen (looks_subIn X hsub)
  have hx0 : (false && onTheHeap (Value.builtin "BaseException.__getattribute__")) = false := rfl
  have hx2 : (Value.builtin "BaseException.__getattribute__" == Value.builtin "object.__getattribute__") = false := by decide +kernel
  have hx1 : (onTheHeap (Value.ref D) && Value.builtin "BaseException.__getattribute__" == Value.builtin "object.__getattribute__") = false := by rw [hx2]; rfl
  unfold getAttr? getAttrBy? getAttrBy
  refine wpAny_bind (wpAny_mkText (wpAny_bind (wpAny_attempt (wpAny_holding (wpAny_bind (L0.at (wpAny_bind (L1.at ?_))))))))
  show wpAny _ _ (if (onTheHeap (Value.ref D) && Value.builtin "BaseException.__getattribute__" == Value.builtin "object.__getattribute__") = true then _ else _) _ _ _
  rw [hx1, if_neg Bool.false_ne_true]
  unfold getAttrByItsOwn hookBefore
  refine wpAny_bind ?_
  rw [if_pos (show onTheHeap (Value.ref D) = true from rfl)]
  refine L2.at ?_
  refine wpAny_bind (wpAny_attempt (wpAny_holding ?_))
  unfold callGetattribute
  rw [hx0, if_neg Bool.false_ne_true]
  unfold boundAndCalled
  rw [PySem.F.excAttr_ValueError.ga.bind (.ref x)]
  refine wpAny_bind (wpAny_pure ?_)
  show wpAny _ _ (call (.builtin "BaseException.__getattribute__") [.ref x, .str "__class__" t]) _ _ _
  refine wpAny_call (codeAny_call_builtin PySem.F.excAttr_ValueError.ga.plain PySem.F.entry_bexc_ga ?_)
  refine @check_slot (model prog w) _ _ ⟨hp, g, d, t + 1, os⟩ "BaseException.__getattribute__" "BaseException" "__getattribute__" (.ref x) [.str "__class__" t] [] _ (by decide +kernel) (by decide +kernel) sub (PySem.F.args_bexc_ga (.ref x) (.str "__class__" t)) ?_
  unfold Builtin.«object.__getattribute__»
  refine wpAny_bind (wpAny_of_eq (a := ((Value.ref x : Value), [Value.str "__class__" t])) (by first | rfl | (simp only [slotArgs]; rfl)) ?_)
  refine wpAny_bind (wpAny_pure (wpAny_bind (L0.at (wpAny_bind (L3.at ?_)))))
  show wpAny _ _ (holding [Value.builtin "object.__class__"] (call (.builtin "getset_descriptor.__get__") [.builtin "object.__class__", .ref x, .ref D]) >>= ret) _ _ _
  refine wpAny_bind (wpAny_holding (wpAny_call (class_get (s := ⟨hp, g, d, t + 1, os⟩) (ox := ox) (od := od) X I hm ?_)))
  refine wpAny_pure ?_
  show wpAny _ _ (handedOut (.ref D)) _ _ _
  rw [handedOut_of (v := .ref D) rfl]
  first
    | exact wpAny_pure (wpAny_pure h)
    | exact wpAny_pure h
    | exact wpAny_pure (wpAny_bind (wpAny_pure (wpAny_pure h)))
theorem kitx_excO (hga : findIn K (.ref D) "__getattribute__" = some (some (.builtin "BaseException.__getattribute__"))) (hgt : findIn K (.ref D) "__getattr__" = some none) (hsub : subIn K (.ref D) (.type "BaseException") = some true) (hdct : hasDictIn K D = true) (ha : findIn K (.ref D) "__class__" = some (some (.builtin "object.__class__")))
    (hn : specialIn K (.builtin "object.__class__") "__get__" = some (some (.builtin "getset_descriptor.__get__"))) (htk : takesIn K (.builtin "object.__class__") = some true) (hm : mroIn K D (.type "object") = some true) :
    KitX K (.ref x) (.ref D) (fun h => InstAt h x ox D od) where
  ty := fun _ _ _ I => I.type
  it := fun _ _ X _ => by
    obtain ⟨cdD, hcD, _⟩ := any_some hdct
    unfold clsIn at hcD
    split at hcD
    · rename_i c' d' cd' sl' ho
      intro A' Q' E' s' k q
      unfold isType loadHead
      exact wpAny_bind (wpAny_loadPart (k _ _ (X _ _ ho)) (wpAny_pure q))
    · cases hcD
  ne := fun h tp dd its n sl X htp => by
    obtain ⟨cdD, hcD, _⟩ := any_some hdct
    refine Bool.eq_false_iff.mpr fun q => ?_
    have e : D = tp := Value.ref.inj (beq_iff_eq.mp q)
    subst e
    unfold clsIn at hcD
    split at hcD
    · rename_i c' d' cd' sl' ho
      have z := (X _ _ ho).symm.trans htp
      cases z
    · cases hcD
  ca := fun X I k => class_ofX hga hgt hsub hdct ha hn htk hm X I k
end
def rIsX (K : PySem.W.Frag) (D a dd : Addr) : List V → Hp → VK → Prop := fun xs H Q => ∃ (c : V) (cv : Value) (b : Bool) (fs : List (Str × V)), xs = [.ref a, c] ∧ (∀ u, RelV c u → u = cv) ∧ PySem.W.kitOne K (.ref D) cv = some b ∧ H dd = some (.xd fs) ∧ Q (.bl b) H
theorem call_isX {X : Cx} [WW X.w] {a D dd : Addr} {oe : Obj} {pn : List (Addr × Obj)} (C : ExcC X.K D) (hz : Zc (.ref D) (some dd) oe) (hf : ∃ vs, oe.data = .fields vs) : CallR (X.suite a ((a, oe) :: pn)) (.builtin "isinstance") (rIsX X.K D a dd) := by
  intro pins s σ H xs us Q I r h
  obtain ⟨c, cv, b, fs, rfl, hcv, e, hdd, q⟩ := h
  cases r with
  | cons rx rr =>
    cases rr with
    | cons rt rr =>
      cases rr
      cases rx
      have ec := hcv _ rt
      subst ec
      obtain ⟨hget, _⟩ := I.pin (a, oe) (List.mem_append.mpr (.inl List.mem_cons_self))
      obtain ⟨vs, hv⟩ := hf
      have hx : ObjOk X.prog X.w H s.heap dd (.xd fs) := I.hok dd _ hdd
      obtain ⟨mA, hns, hr⟩ := hx
      obtain ⟨od, ho, hl⟩ := lookIn_ns hns
      have J : PySem.W.InstAt s.heap a oe D (some od) := ⟨hget, hz.1, by unfold PySem.W.notCls; rw [hv] <;> rfl, by rw [hz.2]; exact ho⟩
      exact PySem.W.kia_one (kitx_excO C.hg C.hk C.hs C.hd C.ha C.hn C.ht C.hm) I.kIn J e (fun z => nomatch z) fun tk => ⟨.bl b, H, I.kept (t' := tk) fun _ _ z => z, rfl, q⟩
end FL
namespace FL
variable [HW]
open PySem PySem.Spec L2 PyProof.Rows

/-! ### what raises -/
structure XC where
  c : Str
  f : Str
  d : D
def XPost (K : PySem.W.Frag) (φ : Nat → Option Addr) (Hf0 H0 : Hp) (O : List Nat) (Hf : Hp) (x : XC) (ρ : Env) (W : WX) : Prop :=
  ∀ (σ' : L2.St) (dd : Addr) (v : V) (Hf' H' : Hp), Same Hf Hf' → SR K φ Hf0 H0 O ρ σ' Hf' H' → Hf' dd = some (.xd [(x.f, v)]) → Rp K φ Hf' x.d v → W (.ref (He.ga K x.c)) (some dd) σ' H'
theorem XPost.mono {K : PySem.W.Frag} {φ : Nat → Option Addr} {Hf0 H0 : Hp} {O : List Nat} {Hf Hf1 : Hp} {x : XC} {ρ : Env} {W : WX} (s : Same Hf Hf1) (h : XPost K φ Hf0 H0 O Hf x ρ W) : XPost K φ Hf0 H0 O Hf1 x ρ W :=
  fun σ' dd v Hf' H' s' => h σ' dd v Hf' H' (s.trans s')
def FX (X : Cx) (W : WX) (O O' : List Nat) (st : Stmt) (G : Env → Option (XC × Env)) : Prop :=
  ∀ (φ : Nat → Option Addr) (Hf0 H0 : Hp) (ρ : Env) (σ : L2.St) (Hf H : Hp) (x : XC) (ρ' : Env) (Dn : Ends), SR X.K φ Hf0 H0 O ρ σ Hf H → G ρ = some (x, ρ') → XPost X.K φ Hf0 H0 O' Hf x ρ' W → wS X st Dn σ H
def FXs (X : Cx) (W : WX) (O O' : List Nat) (sts : List Stmt) (G : Env → Option (XC × Env)) : Prop :=
  ∀ (φ : Nat → Option Addr) (Hf0 H0 : Hp) (ρ : Env) (σ : L2.St) (Hf H : Hp) (x : XC) (ρ' : Env) (Dn : Ends), SR X.K φ Hf0 H0 O ρ σ Hf H → G ρ = some (x, ρ') → XPost X.K φ Hf0 H0 O' Hf x ρ' W → wSs X sts Dn σ H
def FEX (X : Cx) (W : WX) (O : List Nat) (e : Expr) (G : Env → Option XC) : Prop :=
  ∀ (φ : Nat → Option Addr) (Hf0 H0 : Hp) (ρ : Env) (σ : L2.St) (Hf H : Hp) (x : XC) (Q : VK), SR X.K φ Hf0 H0 O ρ σ Hf H → G ρ = some x → XPost X.K φ Hf0 H0 O Hf x ρ W → wE X e σ H Q
/-! the mirror's words -/
def xHere (G : Env → Option XC) : Env → Option (XC × Env) := fun ρ => match G ρ with | some x => some (x, ρ) | none => none
def xSeq (A : Env → Option Out) (GA : Env → Option (XC × Env)) (G : Env → Option (XC × Env)) : Env → Option (XC × Env) := fun ρ => match A ρ with
  | some (.nx ρ') => G ρ'
  | some _ => none
  | none => GA ρ
def xNo : Env → Option (XC × Env) := fun _ => none
def xIf (C : Env → Option Bool) (F G : Env → Option (XC × Env)) : Env → Option (XC × Env) := fun ρ => match C ρ with | some true => F ρ | some false => G ρ | none => none
def rOk (d : D) : Bool := match rLen (toPy d) with | some (l, k) => decide (l ≤ 1000000) && decide (k ≤ 60) && (toPy d).canLay0 | none => false
def xRaise (c f : Str) (F : Env → Option D) : Env → Option XC := fun ρ => match F ρ with | some d => if rOk d = true then some ⟨c, f, d⟩ else none | none => none
section
variable {X : Cx} [WW X.w] {W : WX} {O O1 O' : List Nat} {st : Stmt} {sts : List Stmt} {e a : Expr} {pos : Pos}
/-! ### raise C(e) -/
def tMk1 (K : PySem.W.Frag) (C : Addr) (fld : Str) (n : Nat) (ta : TA) : L2.St → Hp → XK → Prop := fun σ H Q => ta σ H fun vs H1 => ∃ (v : V) (p : PyData) (l k : Nat), vs = [v] ∧ Dp K H1 v p ∧ rLen p = some (l, k) ∧ k ≤ 60 ∧ n + l ≤ sizeLine ∧ ∀ d, H1 d = none → Q (.ref C) (some d) (upd H1 d (.xd [(fld, v)]))
theorem RTop.of_reads {P : Program} {w : World} [WW w] {h₀ : Heap} {v : Value} {p : PyData} {as : List Addr} (r : Reads h₀ v p as) {l k : Nat} (e : rLen p = some (l, k)) (hk : k ≤ 60) (hl : l ≤ sizeLine) : RTop P w h₀ 64 v l := by
  intro A E s Q hu hk0 hQ
  cases r with
  | none => cases e; exact pyReprObj_none (hQ _ _ _ (by decide))
  | bool b => cases e; exact pyReprObj_bool (hQ _ _ _ (by cases b <;> decide))
  | int i t =>
    unfold rLen at e
    split at e
    · rename_i h
      cases e
      exact pyReprObj_int h.1 (hQ _ _ _ h.2)
    · cases e
  | str x t =>
    unfold rLen at e
    split at e
    · rename_i h
      cases e
      exact pyReprObj_str (hQ _ _ _ h) (Nat.le_trans h s1000)
    · cases e
  | list h1 h2 h3 h4 => cases e
  | dict h1 h2 h3 h4 h5 => cases e
  | tuple h1 h2 h3 h4 =>
    unfold rLen at e
    split at e
    · rename_i m d h
      cases e
      exact rt_tup h1 h2 h3 (RSomes.of_reads h4 h) hl A E s Q (by omega) hk0 hQ
    · cases e
theorem lookup_one {v : V} {v' : Value} (r : RelV v v') (g f : Str) : RelO (List.lookup f [(g, v)]) (if f = g then some v' else none) := by
  by_cases hw : f = g
  · subst hw
    rw [if_pos rfl]
    have q : List.lookup f [(f, v)] = some v := by simp [List.lookup]
    rw [q]
    exact r
  · rw [if_neg hw]
    have qw : (f == g) = false := by simpa using hw
    have q2 : List.lookup f [(g, v)] = none := by simp [List.lookup, qw]
    rw [q2]
    trivial
end
end FL
namespace FL
variable [HW]
open PySem PySem.Spec L2 PyProof.Rows
section
variable {X : Cx} [WW X.w] {W : WX} {O O1 O' : List Nat} {st : Stmt} {sts : List Stmt} {e a : Expr} {es : List Expr} {pos : Pos} {F : Env → Option D} {Fs : Env → Option (List D)}
/-! ### a def that raises -/
def spX (K : PySem.W.Frag) (n : Nat) (m : List D → Option XC) : Sp := fun vs H _ E => ∃ (φ : Nat → Option Addr) (Hf : Hp) (ds : List D) (x : XC), Same Hf H ∧ RpAll K φ Hf ds vs ∧ ds.length = n ∧ m ds = some x ∧
  ∀ (dd : Addr) (v : V) (Hf' H' : Hp), Gr Hf H Hf' H' → Hf' dd = some (.xd [(x.f, v)]) → Rp K φ Hf' x.d v → E (.ref (He.ga K x.c)) (some dd) H'
structure CalX (P : Program) (w : World) (K : PySem.W.Frag) (mg : Str → Option Value) (base : Heap) (k : Nat) (x : Str) (n : Nat) (m : List D → Option XC) : Prop where
  ok : ∃ (f : Addr) (fd : FuncData) (ps : List Str), FnOk P w K mg base (L2.CX P w) k f fd ps (spX K n m) ∧ mg x = some (.ref f) ∧ PySem.W.keepIn K (.ref f) = true ∧ Binds K fd ps []
def runX (N n : Nat) (G : Env → Option (XC × Env)) (ds : List D) : Option XC := match G (envOf N n ds) with
  | some (x, _) => some x
  | none => none
def xCall (n : Nat) (m : List D → Option XC) (Fs : Env → Option (List D)) : Env → Option XC := fun ρ => match Fs ρ with | some ds => if ds.length = n then m ds else none | none => none
def FAX (X : Cx) (W : WX) (O : List Nat) (es : List Expr) (G : Env → Option XC) : Prop :=
  ∀ (φ : Nat → Option Addr) (Hf0 H0 : Hp) (ρ : Env) (σ : L2.St) (Hf H : Hp) (x : XC) (Q : List V → Hp → Prop), SR X.K φ Hf0 H0 O ρ σ Hf H → G ρ = some x → XPost X.K φ Hf0 H0 O Hf x ρ W → wA X es σ H Q
def xThen (F : Env → Option D) (G : Env → Option XC) : Env → Option XC := fun ρ => match F ρ with | some _ => G ρ | none => none
end
/-! ### an except suite -/
structure HC (X : Cx) (i : Nat) (x : XC) (a : Addr) (oe : Obj) (dd : Addr) (φ : Nat → Option Addr) (Hf : Hp) (σ : L2.St) (v : V) : Prop where
  z : Zc (.ref (He.ga X.K x.c)) (some dd) oe
  f : ∃ vs, oe.data = .fields vs
  s : σ[i]? = some (some (.ref a))
  h : Hf dd = some (.xd [(x.f, v)])
  r : Rp X.K φ Hf x.d v
theorem HC.gr {X : Cx} [WW X.w] {i : Nat} {x : XC} {a dd : Addr} {oe : Obj} {φ : Nat → Option Addr} {Hf Hf' : Hp} {σ : L2.St} {v : V} (h : HC X i x a oe dd φ Hf σ v) (g : Same Hf Hf') : HC X i x a oe dd φ Hf' σ v := ⟨h.z, h.f, h.s, g _ _ h.h, h.r.mono g⟩
def FEh (X : Cx) (i : Nat) (x : XC) (O : List Nat) (e : Expr) (F : Env → Option D) : Prop :=
  ∀ (a : Addr) (oe : Obj) (pn : List (Addr × Obj)) (dd : Addr) (φ : Nat → Option Addr) (Hf0 H0 : Hp) (ρ : Env) (σ : L2.St) (Hf H : Hp) (v : V) (d : D) (Q : VK), HC X i x a oe dd φ Hf σ v → SR X.K φ Hf0 H0 O ρ σ Hf H → F ρ = some d → (∀ v Hf' H', Gr Hf H Hf' H' → Rp X.K φ Hf' d v → Q v H') → wE (X.suite a ((a, oe) :: pn)) e σ H Q
def FTh (X : Cx) (i : Nat) (x : XC) (O : List Nat) (e : Expr) (T : Env → Option Bool) : Prop :=
  ∀ (a : Addr) (oe : Obj) (pn : List (Addr × Obj)) (dd : Addr) (φ : Nat → Option Addr) (Hf0 H0 : Hp) (ρ : Env) (σ : L2.St) (Hf H : Hp) (v : V) (b : Bool) (Q : Bool → Hp → Prop), HC X i x a oe dd φ Hf σ v → SR X.K φ Hf0 H0 O ρ σ Hf H → T ρ = some b → (∀ Hf' H', Gr Hf H Hf' H' → Q b H') → wT (X.suite a ((a, oe) :: pn)) e σ H Q
def FAh (X : Cx) (i : Nat) (x : XC) (O : List Nat) (es : List Expr) (F : Env → Option (List D)) : Prop :=
  ∀ (a : Addr) (oe : Obj) (pn : List (Addr × Obj)) (dd : Addr) (φ : Nat → Option Addr) (Hf0 H0 : Hp) (ρ : Env) (σ : L2.St) (Hf H : Hp) (v : V) (ds : List D) (Q : List V → Hp → Prop), HC X i x a oe dd φ Hf σ v → SR X.K φ Hf0 H0 O ρ σ Hf H → F ρ = some ds → (∀ vs Hf' H', Gr Hf H Hf' H' → RpAll X.K φ Hf' ds vs → Q vs H') → wA (X.suite a ((a, oe) :: pn)) es σ H Q
def FShs (X : Cx) (i : Nat) (x : XC) (O : List Nat) (sts : List Stmt) (G : Env → Option D) : Prop :=
  ∀ (a : Addr) (oe : Obj) (pn : List (Addr × Obj)) (dd : Addr) (φ : Nat → Option Addr) (Hf0 H0 : Hp) (ρ : Env) (σ : L2.St) (Hf H : Hp) (v : V) (d : D) (Dn : Ends), HC X i x a oe dd φ Hf σ v → SR X.K φ Hf0 H0 O ρ σ Hf H → G ρ = some d → RtK X.K φ Hf0 H0 false d Dn.rt → wSs (X.suite a ((a, oe) :: pn)) sts Dn σ H
def hIf (T : Env → Option Bool) (F G : Env → Option D) : Env → Option D := fun ρ => match T ρ with | some true => F ρ | some false => G ρ | none => none
section
variable {X : Cx} [WW X.w] {i : Nat} {x : XC} {O : List Nat} {e a b : Expr} {es : List Expr} {pos : Pos} {F : Env → Option D} {Fs : Env → Option (List D)}
def FWh (X : Cx) (i : Nat) (x : XC) (O : List Nat) (e : Expr) (F : Env → Option Bool) : Prop :=
  ∀ (a : Addr) (oe : Obj) (pn : List (Addr × Obj)), ∃ t : TT, PW (X.suite a ((a, oe) :: pn)) e t ∧ ∀ (dd : Addr) (φ : Nat → Option Addr) (Hf0 H0 : Hp) (ρ : Env) (σ : L2.St) (Hf H : Hp) (v : V) (b : Bool) (Q : Bool → Hp → Prop), HC X i x a oe dd φ Hf σ v → SR X.K φ Hf0 H0 O ρ σ Hf H → F ρ = some b → (∀ Hf' H', Gr Hf H Hf' H' → Q b H') → t σ H Q
end
/-! ### try -/
def sTry (i : Nat) (c f : Str) (G : Env → Option Out) (GX : Env → Option (XC × Env)) (HX : D → Env → Option D) : Env → Option Out := fun ρ => match G ρ with
  | some o => some o
  | none => match GX ρ with
    | some (x, ρ') => if x.c = c ∧ x.f = f ∧ i < ρ'.length then (match HX x.d (ρ'.set i none) with | some d => some (.rt d) | none => none) else none
    | none => none
theorem SR.setNone {K : PySem.W.Frag} {φ : Nat → Option Addr} {Hf0 H0 Hf H : Hp} {O : List Nat} {ρ : Env} {σ : L2.St} (S : SR K φ Hf0 H0 O ρ σ Hf H) (i : Nat) (hO : O.contains i = false) (u : Option V) : SR K φ Hf0 H0 O (ρ.set i none) (σ.set i u) Hf H := by
  have key : ∀ j d, (ρ.set i none)[j]? = some (some d) → ρ[j]? = some (some d) ∧ j ≠ i := fun j d h => by
    by_cases hj : i = j
    · subst hj
      rw [List.getElem?_set] at h
      simp at h
    · rw [List.getElem?_set_ne hj] at h
      exact ⟨h, fun z => hj z.symm⟩
  refine ⟨by simp [S.len], S.sub, S.gf, S.gh, S.gn, fun j d h n => ?_, fun j d h m => ?_, fun j k d e a h1 h2 m1 m2 ne h3 => ?_⟩
  · obtain ⟨h1, hj⟩ := key j d h
    obtain ⟨v, e1, r⟩ := S.val j d h1 n
    exact ⟨v, by rw [List.getElem?_set_ne (Ne.symm hj)]; exact e1, r⟩
  · obtain ⟨h1, hj⟩ := key j d h
    obtain ⟨a, xs, vs, e1, e2, e3⟩ := S.own j d h1 m
    exact ⟨a, xs, vs, e1, by rw [List.getElem?_set_ne (Ne.symm hj)]; exact e2, e3⟩
  · obtain ⟨q1, hj⟩ := key j d h1
    obtain ⟨q2, hk⟩ := key k e h2
    rw [List.getElem?_set_ne (Ne.symm hj)] at h3
    rw [List.getElem?_set_ne (Ne.symm hk)]
    exact S.ne j k d e a q1 q2 m1 m2 ne h3
end FL
namespace FL
variable [HW]
open PySem PySem.Spec L2 PyProof.Rows PySem.W HandSHeadRun
open PySem.HandSPX (refsVE veTail)
/-! ### own errors at the head -/
structure XiD where
  cls : Str
  par : Str
  fld : Str
  txt : Str
  qual : Str
  params : Arguments
  body : List Stmt
  scope : Scope
abbrev FnN : Type := Option (Str × Str × Arguments × FuncBody × Scope × Addr × List Str × Addr)
def fnN (K : Frag) (p : Str × Option Str) : FnN := match K.lookup (He.fAd K p) with
  | some ⟨_, _, .func fd, _⟩ => some (fd.name, fd.qualname, fd.params, fd.body, fd.scope, fd.globals, fd.closure.map (·.1), fd.builtins)
  | _ => none
def XiD.at_ (d : XiD) : Str × Option Str := (d.cls, some "__init__")
def XiD.val (d : XiD) : FnN := some ("__init__", d.qual, d.params, .stmts d.body, d.scope, mainGlobals, ["__class__"], builtinsNs)
def oneB (K : Frag) (d : XiD) (file : Str) : Bool :=
  excInitIn K (He.ga K d.cls) veTail "ValueError.__new__" &&
  ((match clsIn K (He.ga K d.cls) with | some cd => refsVE cd.mro && cd.hasDict | none => false) &&
  (decide (findIn K (.ref (He.ga K d.cls)) "__setattr__" = some (some (.builtin "object.__setattr__"))) &&
  (decide (findIn K (.ref (He.ga K d.cls)) d.fld = some none) &&
  (decide (findIn K (.ref (He.ga K d.cls)) "__init__" = some (some (.ref (He.fAd K d.at_)))) &&
  (decide (typeIn K (.ref (He.fAd K d.at_)) = some (.type "function")) &&
  (decide (ks_superIn K (He.ga K d.cls) (He.ga K d.cls) "__init__" = some (some (.builtin "ValueError.__init__"))) &&
  (decide (nsIn K cStatics "thirdparty.any" = some none) &&
  (decide (subIn K (.ref (He.ga K d.cls)) (.type "ValueError") = some true) &&
  (decide (subIn K (.ref (He.ga K d.cls)) (.type "BaseException") = some true) &&
  (decide (mroIn K (He.ga K d.cls) (.ref (He.ga K d.cls)) = some true) &&
  (decide (typeIn K (.ref (He.ga K d.cls)) = some (.type "type")) &&
  (keepIn K (.ref (He.ga K d.cls)) &&
  (match K.lookup (He.fAd K d.at_) with
    | some ⟨_, _, .func fd, _⟩ => (match fd.defaults with | Value.none => true | _ => false) && (codeIn K fd.code d.qual && match fd.code, fd.closure with
      | .ref cda, [(n, cc)] => decide (n = "__class__") && ((match K.lookup cda with | some ⟨_, _, .fields vs, _⟩ => (match (vs[2]? : Option Value) with | some (Value.str f _) => decide (f = file) | _ => false) | _ => false) &&
          (match K.lookup cc with | some ⟨_, _, .cell (some (.ref a)), _⟩ => decide (a = He.ga K d.cls) | _ => false))
      | _, _ => false)
    | _ => false)))))))))))))
def XiD.ok (d : XiD) : Prop := ∃ (j : Nat) (a1 a2 p0 p1 p2 p3 p4 p5 p6 p7 p8 p9 p10 p11 p12 : Pos), d.params = iArgs d.par a1 a2 ∧ d.body = iBody d.par d.fld d.txt j p0 p1 p2 p3 p4 p5 p6 p7 p8 p9 p10 p11 p12 ∧ d.scope = iScope d.par ∧
    (∀ (kV doc pm : Value) (an : Option Addr) (cda cc : Addr) (ct u v : Value), bindArgs (fnX "__init__" d.qual (iArgs d.par a1 a2) (iBody d.par d.fld d.txt j p0 p1 p2 p3 p4 p5 p6 p7 p8 p9 p10 p11 p12) (iScope d.par) [("__class__", cc)] .none kV doc pm an (.ref cda) ct) ⟨[u, v], []⟩ = (pure [(("self" : Str), u), (d.par, v)] : Sem (List (Str × Value)))) ∧
    (∀ env : PySem.Env, ∃ pl : Sem Bool, eval (.Call (.Attribute (.Call (.Name "super" p0) [] [] p1) "__init__" p2) [.JoinedStr [.Constant (.str d.txt) j p3, .FormattedValue (.Name d.par p4) 114 none p5] p6] [] p7) env = (do
      let ov ← attributeBase (.Call (.Name "super" p0) [] [] p1) "__init__" env (eval (.Call (.Name "super" p0) [] [] p1) env)
      standAt p2.atName
      let (f, first) ← holding [ov] (getMethod ov "__init__" pl)
      callWith p7 f first (backTo p7 (starEach [.JoinedStr [.Constant (.str d.txt) j p3, .FormattedValue (.Name d.par p4) 114 none p5] p6] env)) [])) ∧
    (∀ env : PySem.Env, swapsWith (.Name d.par p11) (some (.Attribute (.Name "self" p9) d.fld p10)) p12.line env = pure false)
structure XiN (d : XiD) : Prop where
  lp : (iScope d.par).names.lookup d.par = some .local
  ls : (iScope d.par).names.lookup ("super" : Str) = some NameKind.globalImplicit
  lc : (iScope d.par).names.lookup ("__class__" : Str) = some NameKind.free
  cell : ∀ x ∈ (iScope d.par).names, x.2 ≠ .cell
  ne : (d.par == ("self" : Str)) = false
  nd : (d.par == ("__debug__" : Str)) = false
structure PFile (P : Program) (file : Str) : Prop where
  f : ((P.main.file : Str) == file) = true
  s : (P.main.scope.names.lookup ("super" : Str)).isSome = false
theorem one_ok {P : Program} {K : Frag} {d : XiD} {file : Str} (c : oneB K d file = true) (e : fnN K d.at_ = d.val) (t : d.ok) (n : XiN d) (p : PFile P file) : OneC P K (He.ga K d.cls) (He.fAd K d.at_) d.par d.fld d.txt := by
  unfold oneB at c
  simp only [Bool.and_eq_true, decide_eq_true_eq] at c
  obtain ⟨c1, c2, c3, c4, c5, c6, c7, c8, c9, c10, c11, c12, c13, c14⟩ := c
  refine ⟨c1, ?_, c3, c4, c5, c6, c7, c8, c9, c10, c11, c12, c13, p.s, n.lp, n.ls, n.lc, n.cell, n.ne, n.nd, ?_⟩
  · split at c2
    · rename_i cd h
      rw [Bool.and_eq_true] at c2
      exact ⟨cd, h, c2.1, c2.2⟩
    · cases c2
  · obtain ⟨j, a1, a2, p0, p1, p2, p3, p4, p5, p6, p7, p8, p9, p10, p11, p12, t1, t2, t3, t4, t5, t6⟩ := t
    unfold fnN at e
    split at c14
    · rename_i oc od fd osl ho
      rw [ho] at e
      obtain ⟨n1, n2, n3, n4, n5, n6, n7, n8, n9, n10, n11, n12, n13, n14, n15⟩ := fd
      have e2 : (some (n1, n2, n3, n4, n5, n6, n7.map (·.1), n15) : FnN) = some (("__init__" : Str), d.qual, d.params, FuncBody.stmts d.body, d.scope, mainGlobals, [("__class__" : Str)], builtinsNs) := e
      simp only [Option.some.injEq, Prod.mk.injEq] at e2
      obtain ⟨rfl, rfl, rfl, rfl, rfl, rfl, hcl, rfl⟩ := e2
      rw [Bool.and_eq_true, Bool.and_eq_true] at c14
      obtain ⟨k0, k1, k2⟩ := c14
      dsimp only at k0 k1 k2
      have e8 : n8 = Value.none := by
        split at k0
        · rfl
        · cases k0
      subst e8
      split at k2
      · rename_i cda nm cc
        simp only [Bool.and_eq_true, decide_eq_true_eq] at k2
        obtain ⟨k3, k4, k5⟩ := k2
        subst k3
        split at k4
        · rename_i co cdd vs ccs hc1
          split at k4
          · rename_i f tf hf
            have hff : f = file := of_decide_eq_true k4
            subst hff
            split at k5
            · rename_i cl cld a csl hc2
              have ha : a = He.ga K d.cls := of_decide_eq_true k5
              subst ha
              rw [t1, t2, t3] at ho
              exact ⟨oc, od, d.qual, j, a1, a2, p0, p1, p2, p3, p4, p5, p6, p7, p8, p9, p10, p11, p12, .none, n9, n10, n11, n12, cda, cc, n14, osl, co, cdd, vs, ccs, f, tf, cl, cld, csl, ho, k1, hc1, hf, p.f, hc2, fun u v => t4 _ _ _ _ _ _ _ u v, t5, t6⟩
            · cases k5
          · cases k4
        · cases k4
      · cases k2
    · cases c14
def excB (K : Frag) (D : Addr) : Bool :=
  decide (findIn K (.ref D) "__getattribute__" = some (some (.builtin "BaseException.__getattribute__"))) && (decide (findIn K (.ref D) "__getattr__" = some none) && (decide (subIn K (.ref D) (.type "BaseException") = some true) && (hasDictIn K D && (decide (findIn K (.ref D) "__class__" = some (some (.builtin "object.__class__"))) &&
  (decide (specialIn K (.builtin "object.__class__") "__get__" = some (some (.builtin "getset_descriptor.__get__"))) && (decide (takesIn K (.builtin "object.__class__") = some true) && decide (mroIn K D (.type "object") = some true)))))))
theorem excB_ok {K : Frag} {D : Addr} (c : excB K D = true) : ExcC K D ∧ XfC K D := by
  unfold excB at c
  simp only [Bool.and_eq_true, decide_eq_true_eq] at c
  obtain ⟨c1, c2, c3, c4, c5, c6, c7, c8⟩ := c
  exact ⟨⟨c1, c2, c3, c4, c5, c6, c7, c8⟩, ⟨c1, c2, c3, c4⟩⟩
def kitB (K : Frag) (x y : Str) (b : Bool) : Bool := decide (kitOne K (.ref (He.ga K x)) (.ref (He.ga K y)) = some b)
theorem kitB_ok {K : Frag} {x y : Str} {b : Bool} (c : kitB K x y b = true) : kitOne K (.ref (He.ga K x)) (.ref (He.ga K y)) = some b := of_decide_eq_true c
def kitTB (K : Frag) (x : Str) (T : String) (b : Bool) : Bool := decide (kitOne K (.ref (He.ga K x)) (.type T) = some b)
theorem kitTB_ok {K : Frag} {x : Str} {T : String} {b : Bool} (c : kitTB K x T b = true) : kitOne K (.ref (He.ga K x)) (.type T) = some b := of_decide_eq_true c
/-! the hook -/
abbrev AlX : Type := AlP × List FnN
def obsX (as : List Addr) (fa : List He.Fa) (fn : List He.DefD) (ex : Frag → Bool) (ts : List He.Tab) (ps : List PrD) (xs : List XiD) (g : Addr → Option Obj) : AlX := (obsPK fa fn ex ts ps (He.frG g as), xs.map fun d => fnN (He.frG g as) d.at_)
def SaysX (fa : List He.Fa) (fn : List He.DefD) (ex : Frag → Bool) (ts : List He.Tab) (ps : List PrD) (xs : List XiD) (w : World) (K : Frag) : Prop := SaysP fa fn ex ts ps w K ∧ (xs.map fun d => fnN K d.at_) = xs.map XiD.val
def hookX (as : List Addr) (fa : List He.Fa) (fn : List He.DefD) (ex : Frag → Bool) (ts : List He.Tab) (ps : List PrD) (xs : List XiD) : Hook where
  α := AlX
  obs := fun s => obsX as fa fn ex ts ps xs s.heap.get?
  val := fun w => ((((He.valD fn, true), ts.map fun t => some (He.keysIn w.params t.2)), valPr ps), xs.map XiD.val)
  says := fun w h => ∃ K : Frag, K.In h ∧ SaysX fa fn ex ts ps xs w K
  of := fun w _ e => ⟨_, He.frG_in, ⟨⟨⟨congrArg (fun z : AlX => z.1.1.1.1) e, congrArg (fun z : AlX => z.1.1.1.2) e⟩, (congrArg (fun z : AlX => z.1.1.2) e : _ = ts.map fun t => some (He.keysIn w.params t.2))⟩, congrArg (fun z : AlX => z.1.2) e⟩, congrArg (fun z : AlX => z.2) e⟩
  keeps := fun _ _ _ ⟨K, hK, c⟩ k => ⟨K, Frag.In.keeps hK k, c⟩
theorem obsX_eq {as : List Addr} {fa : List He.Fa} {fn : List He.DefD} {ex : Frag → Bool} {ts : List He.Tab} {ps : List PrD} {xs : List XiD} {g : Addr → Option Obj} {s : Shared} (h : ∀ a, g a = s.heap.get? a) : obsX as fa fn ex ts ps xs g = (hookX as fa fn ex ts ps xs).obs s := by
  have e : g = s.heap.get? := funext h
  rw [e] <;> rfl
theorem saysX_at {fa : List He.Fa} {fn : List He.DefD} {ex : Frag → Bool} {ts : List He.Tab} {ps : List PrD} {xs : List XiD} {w : World} [WW w] {K : Frag} (c : SaysX fa fn ex ts ps xs w K) (i : Nat) {d : XiD} (h : xs[i]? = some d := by rfl) : fnN K d.at_ = d.val := by
  have e2 : (xs.map fun d => fnN K d.at_)[i]? = (xs.map XiD.val)[i]? := by rw [c.2]
  rw [List.getElem?_map, List.getElem?_map, h] at e2
  exact Option.some.inj e2
end FL
namespace FL
variable [HW]
open PySem PySem.Spec PyProof.Rows L2

/-! ### x.upper(), min(i, j) -/
def upperD : D → Option D | .str a => if a.length ≤ 5592405 then some (.str (Txt.upper a)) else none | _ => none
def min2D : List D → Option D | [.int i, .int j] => some (.int (if j < i then j else i)) | _ => none
section
variable {X : Cx} [WW X.w] {O : List Nat} {o : Expr} {pos apos : Pos} {F : Env → Option D}
end
section
variable {X : Cx} [WW X.w] {W : WX} {O : List Nat} {e : Expr} {pos : Pos}
end
end FL
namespace FL
variable [HW]
open PySem PySem.Spec L2 PyProof.Rows

/-! ### defs that are called while an exception is handled: their bodies do without calm -/
abbrev Cool (A : Around) : Around := { A with handled := none }
structure FnHot (P : Program) (w : World) (K : PySem.W.Frag) (mg : Str → Option Value) (base : Heap) (k : Nat) (f : Addr) (fd : FuncData) (ps : List Str) (sp : Sp) : Prop where
  lg : ∀ vs H Q E, sp vs H Q E → vs.length = ps.length
  go : ∀ (B : Around) (fr : List PySem.Env) (z : Shared) (H : Hp) (ar : Args) (us : List Value) (vs : List V) (Q : VK) (E : XK), Room k (Cool B) → Env0 P w K mg base B fr z H → BindsTo z fd ar (ps.zip us) → Vals vs us → sp vs H Q E → codeAny (model P w) B (.call (.ref f) ar) (CR CX0 fr P w H z Q E) z
abbrev cxHot (P : Program) (w : World) (K : PySem.W.Frag) (mg : Str → Option Value) (base : Heap) (N : List Str) (q : Str) (sc : Scope) (f : Addr) (cd : Value) (B : Around) (fr : List PySem.Env) (z : Shared) (H : Hp) (E : XK) : Cx :=
  { cxOf CX0 P w K mg base N q sc f cd B fr z H E with calm := false }
theorem inv_hot {P : Program} {w : World} [WW w] {K : PySem.W.Frag} {mg : Str → Option Value} {base : Heap} {N ps : List Str} {q : Str} {sc : Scope} {f : Addr} {cd : Value} {B : Around} {fr : List PySem.Env} {z z1 : Shared} {H : Hp} {E : XK} {us : List Value} {vs : List V}
    (S : FnScope N ps sc) (e0 : Env0 P w K mg base B fr z H) (hl : vs.length = ps.length) (r : Vals vs us)
    (x : InCallC z z.heap.objs.size (bindL (envOfC q sc z.heap.objs.size f cd).kindOf (ps.zip us) fun _ => none) (cellsFrom (z.heap.objs.size + 1) sc.names []) (bindC (envOfC q sc z.heap.objs.size f cd).kindOf (ps.zip us) fun _ => none) z1) :
    Inv (cxHot P w K mg base N q sc f cd B fr z H E) [] (start N vs) H z1 := by
  have I : Inv (cxOf CX0 P w K mg base N q sc f cd (Cool B) fr z H E) [] (start N vs) H z1 := inv_start S rfl ⟨e0.frames, e0.mod, e0.bs, e0.bsz, e0.funs, e0.frf, e0.hok, e0.bare⟩ hl r x
  have o := I.ok
  exact ⟨⟨o.mod, o.kind, o.glob, o.blt, o.above, o.inj, o.has, o.cab, (fun h => nomatch h), Around.frames_deeper e0.frames, o.stk, o.exf, o.bs, o.bsz, o.noex, o.exfs, o.funs, o.frf⟩, I.os, I.bare, I.base, I.loc, I.cell, I.free, I.freeC, I.pin, I.hok, I.len⟩
theorem u64h {A : Around} {k : Nat} (h : Room k (Cool A)) : A.units + 64 < cLine := h.units
structure CalH (P : Program) (w : World) (K : PySem.W.Frag) (mg : Str → Option Value) (base : Heap) (k : Nat) (x : Str) (n : Nat) (m : List D → Option D) : Prop where
  ok : ∃ (f : Addr) (fd : FuncData) (ps : List Str), FnHot P w K mg base k f fd ps (spF K false n m) ∧ mg x = some (.ref f) ∧ PySem.W.keepIn K (.ref f) = true ∧ Binds K fd ps []
section
variable {X : Cx} [WW X.w] {O : List Nat} {es : List Expr} {e : Expr} {x : Str} {p pos : Pos} {k j n : Nat} {m : List D → Option D}
end
end FL
namespace FL
variable [HW]
open PySem PySem.Spec L2 PyProof.Rows

/-! ### dicts of the module with text keys: what is no key, too -/
structure TabF (K : PySem.W.Frag) (w : World) (mg : Str → Option Value) (x : Str) (tb : List (Str × D)) : Prop where
  at_ : TabAt K w mg x tb
  no : ∃ a : Addr, mg x = some (.ref a) ∧ ∀ z, tbGet tb z = none → PySem.W.nsIn K a z = some none
def tbHasF (tb : List (Str × D)) (neg : Bool) : D → Option D | .str z => some (.bl (neg != (tbGet tb z).isSome)) | _ => none
section
variable {X : Cx} [WW X.w] {O : List Nat} {e : Expr} {F : Env → Option D} {x : Str} {p pos : Pos} {tb : List (Str × D)}
end
end FL
namespace FL
variable [HW]
open PySem PySem.Spec PyProof.Rows

/-! ### a run leaves the generators that sleep, but for those that it wakes: and it wakes none that could not go on -/
def isRet : Frame → Bool
  | .ret .. => true
  | .gen .. => false
abbrev RetFs (fs : List Frame) : Prop := ∀ f ∈ fs, isRet f = true
def GNo : GenState → Prop
  | .suspended _ _ _ _ fs _ => RetFs fs
  | _ => True
def ENo : End → Prop
  | .ret _ => True
  | .susp _ _ _ _ _ _ fs => RetFs fs
theorem ENo.gen {e : End} (h : ENo e) : GNo e.genState := by
  cases e with
  | ret r => trivial
  | susp => exact h
def isSusp : GenState → Bool
  | .suspended .. => true
  | _ => false
def deadF (f : Frame) : Frame := .ret (fun _ => .unsupported "dead") none false [] f.where_.1 f.where_.2 []
def dead : GenState → GenState
  | .suspended _ l c p fs cl => .suspended (fun _ => .unsupported "dead") l c p (fs.map deadF) cl
  | x => x
theorem dead_susp {x : GenState} (h : isSusp x = true) : ∃ l c p fs cl, dead x = .suspended (fun _ => .unsupported "dead") l c p fs cl := by
  cases x with
  | suspended k l c p fs cl => exact ⟨l, c, p, _, cl, rfl⟩
  | _ => cases h
theorem no_unsupp0 {M : Model} {Γ : PySem.Ctx} {p : Pos} {w : String} {s : Shared} {e : End} {s' : Shared} (h : Runs M Γ p (.unsupported w) [] s e s') : False := by cases h
theorem no_unsupp {M : Model} {Γ : PySem.Ctx} {p : Pos} {w : String} {st : List Frame} {s : Shared} {e : End} {s' : Shared} (h : Runs M Γ p (.unsupported w) st s e s') : False := by
  cases st with
  | nil => exact no_unsupp0 h
  | cons F fs =>
    cases h with
    | segRet h1 _ => exact no_unsupp0 h1
    | segGen h1 _ => exact no_unsupp0 h1
    | segSuspOut _ h1 => exact no_unsupp0 h1
    | segSuspGen _ h1 _ _ => exact no_unsupp0 h1
section
variable (G0 : Array GenState)
def Old (j : Nat) : Prop := ∃ y, G0[j]? = some y ∧ isSusp y = true
noncomputable def pick (j : Nat) (x : GenState) : GenState := open Classical in match G0[j]? with | some y => if isSusp y = true then y else x | none => x
noncomputable def patch (G : Array GenState) : Array GenState := G.mapIdx fun j x => pick G0 j x
noncomputable def un (s : Shared) : Shared := { s with gens := patch G0 s.gens }
structure GdG (s : Shared) : Prop where
  size : G0.size ≤ s.gens.size
  no : ∀ (j : Nat) (x : GenState), s.gens[j]? = some x → GNo x
  old : ∀ (j : Nat) (y : GenState), G0[j]? = some y → isSusp y = true → s.gens[j]? = some (dead y)
variable {G0}
theorem GdG.set {s : Shared} {g : Nat} {x : GenState} (H : GdG G0 s) (h : ¬ Old G0 g) (hx : GNo x) : GdG G0 (s.setGen g x) := by
  refine ⟨?_, fun j z e => ?_, fun j y e1 e2 => ?_⟩
  · show _ ≤ (s.gens.setIfInBounds g x).size
    rw [Array.size_setIfInBounds]
    exact H.size
  · have e' : (s.gens.setIfInBounds g x)[j]? = some z := e
    rw [Array.getElem?_setIfInBounds] at e'
    split at e'
    · split at e'
      · cases e'; exact hx
      · cases e'
    · exact H.no j z e'
  · show (s.gens.setIfInBounds g x)[j]? = _
    rw [Array.getElem?_setIfInBounds, if_neg (fun z => h ⟨y, by rw [z]; exact e1, e2⟩)]
    exact H.old j y e1 e2
theorem GdG.push {s : Shared} {c : Code} (H : GdG G0 s) : GdG G0 { s with gens := s.gens.push (.fresh c) } := by
  refine ⟨?_, fun j z e => ?_, fun j y e1 e2 => ?_⟩
  · show _ ≤ (s.gens.push (.fresh c)).size
    rw [Array.size_push]
    have := H.size
    omega
  · have e' : (s.gens.push (.fresh c))[j]? = some z := e
    rw [Array.getElem?_push] at e'
    split at e'
    · cases e'; trivial
    · exact H.no j z e'
  · show (s.gens.push (.fresh c))[j]? = _
    have h1 := (Array.getElem?_eq_some_iff.mp e1).1
    have := H.size
    rw [Array.getElem?_push, if_neg (by omega)]
    exact H.old j y e1 e2
theorem GdG.heap {s : Shared} (H : GdG G0 s) {h : Heap} {d : Drawn} {t : Nat} {o : OsState} : GdG G0 { s with heap := h, drawn := d, toks := t, os := o } := ⟨H.size, H.no, H.old⟩
theorem GdG.fresh {s : Shared} (H : GdG G0 s) {g : Nat} {x : GenState} (e : s.gens[g]? = some x) (hx : isSusp x = false) : ¬ Old G0 g := fun ⟨y, h1, h2⟩ => by
  have := H.old g y h1 h2
  rw [this] at e
  cases e
  obtain ⟨l, c, p, fs, cl, q⟩ := dead_susp h2
  rw [q] at hx
  cases hx
theorem GdG.susp {M : Model} {Γ : PySem.Ctx} {p : Pos} {s s2 s3 : Shared} {g : Nat} {k : Resume → Sem Fin} {l : List Value} {c : Code} {p0 : Pos} {fs : List Frame} {cl : Bool} {r : Resume} {e : End} (H : GdG G0 s) (q : s.gens[g]? = some (.suspended k l c p0 fs cl)) (h1 : Runs M Γ p (k r) fs s2 e s3) : ¬ Old G0 g := fun ⟨y, y1, y2⟩ => by
  have := H.old g y y1 y2
  rw [q] at this
  obtain ⟨l', c', p', fs', cl', e'⟩ := dead_susp y2
  rw [e'] at this
  cases this
  exact no_unsupp h1
end
/-! the beginning: all that sleep could not go on -/
def deads (s : Shared) : Shared := { s with gens := s.gens.map dead }
end FL
namespace FL
variable [HW]
open PySem L2 PyProof.Rows
/-! ### xs.extend(a list) -/
section
open PySem.SeqAt PySem.AutoSeq1 PySem.MeetsSeq2 PySem.MeetsSeq3 PySem.MeetsSeq
variable {X : Cx} [WW X.w] {O : List Nat}
def rExtL (_ : PySem.W.Frag) : V → List V → Hp → VK → Prop := fun v vs H Q => ∃ a t xs zs, v = .ref a ∧ vs = [.ref t] ∧ H a = some (.lst xs) ∧ H t = some (.lst zs) ∧ xs.length + zs.length ≤ sizeLine ∧ Q .non (upd H a (.lst (xs ++ zs)))
def extendLF : List D → List D → Option (List D) := fun xs ds => match ds with | [.lst zs] => if xs.length + zs.length ≤ sizeLine then some (xs ++ zs) else none | _ => none
end
end FL
namespace FL
variable [HW]
open PySem L2 PyProof.Rows
section
variable {X : Cx} [WW X.w] {O : List Nat} {o e : Expr} {F : Env → Option D} {Fs : Env → Option (List D)}
/-! ### x >= y of data -/
def notNon : PyData → Bool | .none => false | _ => true
def geXD (x y : D) : Option D := if okD x && okD y && PySem.W.alike (toPy x) (toPy y) && notNon (toPy x) then some (.bl (!PySem.W.dataLt (toPy x) (toPy y))) else none
def rGeD (K : PySem.W.Frag) : R2 := fun x y H Q => ∃ d e, Dp K H x d ∧ Dp K H y e ∧ SeqAt.shaped d = true ∧ SeqAt.shaped e = true ∧ PySem.W.alike d e = true ∧ d ≠ .none ∧ Q (.bl (!PySem.W.dataLt d e)) H
/-! ### xs.index(data) -/
def indexND (x : D) (ds : List D) : Option D := match ds with
  | [y] => if isLst x && okD x && okD y then (match seqD x with | some xs => (match idxD y xs with | some k => some (.int (k : Nat)) | none => none) | none => none) else none
  | _ => none
end
end FL
namespace FL
variable [HW]
open PySem L2 PyProof.Rows
/-! ### a comprehension whose element changes objects -/
section
variable {K : PySem.W.Frag} {φ : Nat → Option Addr} {B Bf : Hp} {O : List Nat} {ρ : Env} {S : List Ob} {σ : L2.St} {Hf H : Hp}
theorem MSR.hold {us : List V} {L : Addr} (M : MSR K φ B Bf O ρ S σ Hf H) (hf : Hf L = none) (hH : H L = some (.lst us)) (hB : B L = none) (hO : ¬ ObAt φ S L) (ho : ∀ i d, ρ[i]? = some (some d) → i ∈ O → σ[i]? ≠ some (some (.ref L))) :
    MSR K φ B Bf O ρ S σ (upd Hf L (.lst us)) H ∧ Same Hf (upd Hf L (.lst us)) := by
  have sm : Same Hf (upd Hf L (.lst us)) := fun a u e => by
    have hb : a ≠ L := by rintro rfl; rw [hf] at e; cases e
    rw [upd_ne hb]; exact e
  refine ⟨?_, sm⟩
  have D : MDone K φ B Bf S (upd Hf L (.lst us)) H := by
    refine ⟨fun a u e => ?_, ⟨fun j o' e => ?_, M.cl.inj, M.cl.out⟩, M.fb, fun a u e1 e2 => ?_, M.nb⟩
    · by_cases hb : a = L
      · subst hb; rw [upd_same] at e; cases e; exact hH
      · rw [upd_ne hb] at e; exact M.sub _ _ e
    · obtain ⟨b, p1, p2, p3⟩ := M.cl.at_ j o' e
      have hb : b ≠ L := by rintro rfl; exact hO ⟨j, (List.getElem?_eq_some_iff.mp e).1, p1⟩
      exact ⟨b, p1, by rw [upd_ne hb]; exact p2, p3.mono (.refl φ) sm⟩
    · have hb : a ≠ L := by rintro rfl; rw [hB] at e1; cases e1
      rw [upd_ne hb]; exact M.fn _ _ e1 e2
  refine D.msr M.sr.len (fun i d e n => ?_) (fun i d e m => ?_) M.sr.ne
  · obtain ⟨v, e1, r⟩ := M.sr.val i d e n
    exact ⟨v, e1, r.mono sm⟩
  · obtain ⟨a, xs, vs, q1, q2, q3, q4, q5, q6, r⟩ := M.own i d e m
    have hb : a ≠ L := by rintro rfl; exact ho i d e m q2
    exact ⟨a, xs, vs, q1, q2, q3, by rw [upd_ne hb]; exact q4, q5, q6, r.mono sm⟩
end
def compM (g : D → Env → Option Env) (E : Env → List Ob → Option (D × List Ob)) (ρ : Env) : List D → List Ob → Option (List D × List Ob)
  | [], S => some ([], S)
  | d :: ds, S => match g d ρ with
    | some ρ2 => (match E ρ2 S with
      | some (y, S1) => (match compM g E ρ ds S1 with
        | some (ys, S2) => some (y :: ys, S2)
        | none => none)
      | none => none)
    | none => none
def eCompM (O vs : List Nat) (Fi : Env → Option (List D)) (g : D → Env → Option Env) (E : Env → List Ob → Option (D × List Ob)) : Env → List Ob → Option (D × List Ob) := fun ρ S => match Fi ρ with
  | some ds => if ds.length ≤ sizeLine then (match compM g E (wipeE (wipeE ρ O) vs) ds S with
    | some (ys, S') => some (.lst ys, S')
    | none => none) else none
  | none => none
section
variable {X : Cx} [WW X.w] {O : List Nat} {elt tg iter : Expr} {scope : Scope} {own : List (Str × Nat)} {pos : Pos}
def qLst (A : Env → List Ob → Option (List D × List Ob)) : Env → List Ob → Option (D × List Ob) := fun ρ S => match A ρ S with
  | some (ds, S1) => (match lstD ds with | some d => some (d, S1) | none => none)
  | none => none
def mOr (F G : Env → List Ob → Option (D × List Ob)) : Env → List Ob → Option (D × List Ob) := fun ρ S => match F ρ S with
  | some r => some r
  | none => G ρ S
end
end FL
namespace FL
variable [HW]
open PySem L2 PyProof.Rows
/-! ### a try that runs through, over objects -/
section
variable {X : Cx} [WW X.w] {O O' : List Nat} {body : List Stmt} {pos : Pos} {G : Env → List Ob → Option MOut}
end
/-! ### o.m(..), o of one of several classes: q is the mirror of the call -/
abbrev Qm : Type := (Env → Option D) → (Env → List Ob → Option (List D × List Ob)) → Env → List Ob → Option (D × List Ob)
def AskQ (P : Program) (w : World) (K : PySem.W.Frag) (mg : Str → Option Value) (base : Heap) (j : Nat) (m : Str) (q : Qm) : Prop :=
  ∀ (X : Cx), X.prog = P → X.w = w → X.K = K → X.mg = mg → X.base = base → ∀ (k : Nat), Room k X.A → j ≤ k → ∀ (O : List Nat) (o e : Expr) (es : List Expr) (apos pos : Pos) (Fo : Env → Option D) (A : Env → List Ob → Option (List D × List Ob)) (pl : Sem Bool), FE X O o Fo → MA X O (e :: es) A →
    starEach (e :: es) X.env = (false, eval e X.env) :: starEach es X.env → (backTo pos (starEach es X.env)).any (·.1) = false →
    eval (.Call (.Attribute o m apos) (e :: es) [] pos) X.env = (do
      let ov ← eval o X.env
      standAt apos.atName
      let (f, first) ← holding [ov] (getMethod ov m pl)
      callWith pos f first (backTo pos (starEach (e :: es) X.env)) (backToKw pos (keywordEach [] X.env))) → ME X O (.Call (.Attribute o m apos) (e :: es) [] pos) (q Fo A)
section
variable {P : Program} {w : World} [WW w] {K : PySem.W.Frag} {mg : Str → Option Value} {base : Heap} {j : Nat} {c m : Str} {n : Nat} {mir : List D → List Ob → Option (D × List Ob)} {q q2 : Qm}
def qEi (q q2 : Qm) : Qm := fun Fo A => mOr (q Fo A) (q2 Fo A)
end
section
variable {X : Cx} [WW X.w] {j k : Nat} {m : Str} {q : Qm} {O : List Nat} {o e : Expr} {es : List Expr} {apos pos : Pos} {Fo : Env → Option D} {A1 : Env → List Ob → Option (List D × List Ob)}
end
end FL
namespace FL
variable [HW]
open PySem L2 PyProof.Rows
section
variable {X : Cx} [WW X.w] {O : List Nat} {a b c : Expr} {pos : Pos} {F G E : Env → Option D}
def chD : D → D → D → Option D | .int i, .int j, .int k => some (.bl (decide (i ≤ j) && decide (j ≤ k))) | _, _, _ => none
end
/-! ### o.f(..), f a field that holds an object with __call__ -/
section
variable {X : Cx} [WW X.w] {O : List Nat} {e o : Expr} {es : List Expr} {c c2 f : Str} {apos pos : Pos} {A1 : Env → List Ob → Option (List D × List Ob)} {M1 : Env → List Ob → Option (D × List Ob)} {k j n : Nat} {mir : List D → List Ob → Option (D × List Ob)}
end
end FL
namespace FL
variable [HW]
open PySem PySem.Spec L2 PyProof.Rows RZ
/-! ### zip(a tuple, a list) -/
def ItM (K : PySem.W.Frag) (a b : Addr) : It :=
  ⟨fun i H => ∃ (xs ys : List V) (x y : V), (SqT K H a xs ∧ xs[i]? = some x) ∧ (SqL K H b ys ∧ ys[i]? = some y),
    fun i H v H' => ∃ T x y, (v = .ref T ∧ H T = none ∧ H' = upd H T (.tup [x, y])) ∧ (∀ xs, SqT K H a xs → xs[i]? = some x) ∧ (∀ ys, SqL K H b ys → ys[i]? = some y),
    fun i H => ∃ xs ys : List V, (SqT K H a xs ∧ SqL K H b ys) ∧ (xs.length ≤ i ∨ ys.length ≤ i)⟩
def iZipM (K : PySem.W.Frag) (ta : TA) : TI := fun σ H R => ta σ H fun vs H1 => ∃ a b xs ys, vs = [.ref a, .ref b] ∧ (SqT K H1 a xs ∧ SqL K H1 b ys) ∧ R (ItM K a b) H1
def iZpM (F G : Env → Option D) : Env → Option (List D) := fun ρ => match F ρ, G ρ with
  | some (.tup xs), some (.lst ys) => some (zipT xs ys)
  | _, _ => none
end FL
namespace FL
variable [HW]
open PySem PySem.Spec PyProof.Rows L2
section
variable {X : Cx} [WW X.w] {O : List Nat} {e : Expr} {F G : Env → Option D}
def eEi (F G : Env → Option D) : Env → Option D := fun ρ => match F ρ with
  | some d => some d
  | none => G ρ
end
/-! ### t.count(x), t a tuple of flat data -/
def rCntT (K : PySem.W.Frag) : V → List V → Hp → VK → Prop := fun x xs H Q => ∃ (a : Addr) (ys : List V) (y : V), (x = V.ref a ∧ xs = [y]) ∧ SqT K H a ys ∧ (flatV y = true ∧ ys.all flatV = true) ∧ Q (.int (ys.countP fun z => eqV z y : Nat)) H
def countTD (x : D) (ds : List D) : Option D := match x, ds with
  | .tup xs, [y] => if flatD y && xs.all flatD then some (.int (xs.countP fun z => deq z y : Nat)) else none
  | _, _ => none
end FL
namespace FL
variable [HW]
open PySem PySem.Spec PyProof.Rows L2
/-! ### tuples whose object is known: no dict of their own -/
def ExT (H : Hp) (a : Addr) (xs : List V) : Prop := ∃ ob : Obj, H a = some (.frz ob (.tup xs)) ∧ ob.dict = none ∧ ob.cls = .type "tuple"
theorem ExT.same {H H' : Hp} {a : Addr} {xs : List V} (s : Same H H') (h : ExT H a xs) : ExT H' a xs := let ⟨ob, e, r⟩ := h; ⟨ob, s _ _ e, r⟩
theorem ExT.plain {X : Cx} [WW X.w] {pins : List (Addr × Obj)} {σ : L2.St} {H : Hp} {s : Shared} {a : Addr} {xs : List V} (I : Inv X pins σ H s) (h : ExT H a xs) : s.TypeIs (.ref a) "tuple" ∧ ∀ b, Value.ref a = .ref b → ∃ ob, s.heap.get? b = some ob ∧ ob.dict = none := by
  obtain ⟨ob, e, hd, hc⟩ := h
  have g : s.heap.get? a = some ob := (I.hok a _ e).1
  exact ⟨⟨ob, g, hc⟩, fun b z => by cases z; exact ⟨ob, g, hd⟩⟩
section
variable {X : Cx} [WW X.w] {O : List Nat} {o e : Expr} {F G : Env → Option D}
def FEx (X : Cx) (O : List Nat) (e : Expr) (F : Env → Option D) : Prop :=
  ∀ (φ : Nat → Option Addr) (Hf0 H0 : Hp) (ρ : Env) (σ : L2.St) (Hf H : Hp) (ds : List D) (Q : VK), SR X.K φ Hf0 H0 O ρ σ Hf H → F ρ = some (.tup ds) →
    (∀ a vs Hf' H', Gr Hf H Hf' H' → ExT Hf' a vs → RpAll X.K φ Hf' ds vs → Q (.ref a) H') → wE X e σ H Q
end
end FL
namespace FL
variable [HW]
open PySem PySem.Spec L2 PyProof.Rows GenW

/-! ### a heap cut to the size that it had -/
def cutH (n : Nat) (h : Heap) : Heap := { h with objs := h.objs.extract 0 n }
def cutS (n : Nat) (s : Shared) : Shared := { s with heap := cutH n s.heap }
theorem cutH_at {n : Nat} {h : Heap} {a : Nat} : (cutH n h).objs[a]? = if a < n then h.objs[a]? else none := by
  show (h.objs.extract 0 n)[a]? = _
  rw [Array.getElem?_extract]
  by_cases ha : a < n
  · rw [if_pos ha]
    by_cases hb : a < h.objs.size
    · rw [if_pos (by omega)]; simp
    · rw [if_neg (by omega)]
      exact (Array.getElem?_eq_none (by omega)).symm
  · rw [if_neg ha, if_neg (by omega)]
theorem get_cut {n : Nat} {h : Heap} {a : Addr} {o : Obj} (e : h.get? a = some o) (l : a < n) : (cutH n h).get? a = some o := by
  unfold Heap.get? at e ⊢
  rw [cutH_at, if_pos l]
  exact e
theorem funs_cut {n : Nat} {h base : Heap} : ∀ {l : List PySem.Env}, h.FunFrames base l → (∀ b ∈ frs l, b < n) → (cutH n h).FunFrames base l
  | [], _, _ => trivial
  | env :: rest, ⟨hk, ⟨L, o, hf, hn, ho, hd⟩, hr⟩, hl => by
    have hm : frs (env :: rest) = L :: frs rest := by unfold frs; rw [List.filterMap_cons, hf]
    rw [hm] at hl
    exact ⟨hk, ⟨L, o, hf, hn, get_cut ho (hl L (.head _)), hd⟩, funs_cut hr fun b hb => hl b (.tail _ hb)⟩

/-! ### a generator that any consumer may turn: its base moves with each waking -/
abbrev Bs := Shared × Hp
abbrev XB (X : Cx) (b : Bs) : Cx := { X with s_0 := b.1, H_0 := b.2 }
structure WK (P : Program) (w : World) (base : Heap) (outer : List PySem.Env) (n0 : Nat) (fo : List (Addr × Obj)) (H : Hp) (s : Shared) (b' : Bs) (fo' : List (Addr × Obj)) (H' : Hp) (s' : Shared) : Prop where
  os : s'.os = s.os
  b1 : b' = (cutS n0 s', H')
  bare : AllBare s'.gens
  keep : ∀ a o, n0 ≤ a → s.heap.get? a = some o → H a = none → a ∉ fo.map Prod.fst → (∀ v, o.data ≠ .cell v) → s'.heap.get? a = some o ∧ H' a = none
  bas : ∀ a o, base.get? a = some o → s'.heap.get? a = some o ∧ H' a = none
  funs : (cutH n0 s'.heap).FunFrames base outer
  frf : ∀ a ∈ frs outer, H' a = none
  hok : HOk P w H' s'.heap
  pins : ∀ p ∈ fo', s'.heap.get? p.1 = some p.2 ∧ H' p.1 = none ∧ p.1 ∉ frs outer ∧ ∀ v, p.2.data ≠ .cell v
  pne : ∀ p ∈ fo', ∀ o, n0 ≤ p.1 → s.heap.get? p.1 = some o → H p.1 = none → (∀ v, o.data ≠ .cell v) → p.1 ∈ fo.map Prod.fst
  size : n0 ≤ s'.heap.objs.size
structure GN (X : Cx) (b : Bs) (fo ip : List (Addr × Obj)) (σ : L2.St) (H : Hp) (s : Shared) : Prop where
  inv : Inv (XB X b) (fo ++ ip) σ H s
  sz : b.1.heap.objs.size = X.env.locals
  ne : ∀ p ∈ fo, ∀ q ∈ X.pn ++ ip, p.1 ≠ q.1
section
variable {X : Cx} [WW X.w] {b b' : Bs} {fo fo' ip : List (Addr × Obj)} {σ : L2.St} {H H' : Hp} {s s' : Shared}
end

/-! ### the protocol: W, the consumer's story; Z, what it has kept since the waking -/
abbrev WcN := Nat → Shared → Bs → List (Addr × Obj) → ZK → Prop
def sent (u : Bool) : Value := if u = true then .bool true else .none
def GnY (X : Cx) (PY : PYK) (W : WcN) : Protocol := fun n s0 v s kap =>
  ∃ k x b fo ip σ Z Hf H, n + 1 + k = sizeLine ∧ RelV x v ∧ W k s0 b fo Z ∧ GN X b fo ip σ H s ∧ PY k x Hf H ∧ Z Hf ∧
    ∀ u s' b' fo' Z' Hf' H', WK X.prog X.w X.base X.outer X.env.locals fo H s b' fo' H' s' → W (k + 1) s' b' fo' Z' → MonoZ Z' → Z' Hf' → Gr Hf H Hf' H' → kap (.send (sent u)) s'
def GnR (X : Cx) (W : WcN) (Q : ZK → Nat → VK) : GenEnd := fun n s0 r s => match r with
  | .ok (.ret u) => ∃ k v b fo ip σ Z H, n + k = sizeLine ∧ W k s0 b fo Z ∧ GN X b fo ip σ H s ∧ RelV v u ∧ Q Z k v H
  | .ok _ => False
  | .error e => False
def GnSP (X : Cx) (b : Bs) (fo ip : List (Addr × Obj)) (D : GqEnds) (Z : ZK) (k : Nat) (f : Flow) (s : Shared) : Prop :=
  match f with
  | .next => ∃ σ H, GN X b fo ip σ H s ∧ D.nx Z k σ H
  | .brk => ∃ σ H, GN X b fo ip σ H s ∧ D.bk Z k σ H
  | .cont => ∃ σ H, GN X b fo ip σ H s ∧ D.ct Z k σ H
  | .ret u => ∃ v σ H, GN X b fo ip σ H s ∧ RelV v u ∧ D.rt Z k v H
structure GnC (X : Cx) (ip : List (Addr × Obj)) (A : Around) (c : Code) (fs : List Frame) (gd : Bool → Bool) : Prop where
  ex : X.ex = []
  cells : X.env.cells = []
  young : ∀ q ∈ X.pn ++ ip, X.env.locals ≤ q.1
  over : A.over c fs = X.A
  split : splitAtGen fs = none
  guard : fs.any Frame.guarded = false
  gd : gd false = false
structure GnK (X : Cx) (ip : List (Addr × Obj)) (A : Around) (R : GenEnd) (PY : PYK) (W : WcN) (c : Code) (fs : List Frame) (K : Flow → Sem PySem.Fin) (J : Value → Sem PySem.Fin) (D : GqEnds) : Prop where
  ok : ∀ (n k : Nat) (s0 s : Shared) (b : Bs) (fo : List (Addr × Obj)) (Z : ZK) (f : Flow), n + k = sizeLine → W k s0 b fo Z → MonoZ Z → GnSP X b fo ip D Z k f s → Seg (model X.prog X.w) A R (GnY X PY W) n s0 c (K f) fs s
  exc : ∀ (n : Nat) (s0 : Shared) (e : Value) (s : Shared), X.xe e s → Seg (model X.prog X.w) A R (GnY X PY W) n s0 c (J e) fs s
structure GnS (X : Cx) (st : Stmt) (t : TGq) : Prop where
  run : ∀ (A : Around) (ip : List (Addr × Obj)) (R : GenEnd) (PY : PYK) (W : WcN) (n k : Nat) (s0 : Shared) (c : Code) (fs : List Frame) (K : Flow → Sem PySem.Fin) (J : Value → Sem PySem.Fin) (gd : Bool → Bool) (lv : List Value → List Value) (s : Shared) (σ : L2.St) (H : Hp) (D : GqEnds) (b : Bs) (fo : List (Addr × Obj)) (Z : ZK),
    GnC X ip A c fs gd → n + k = sizeLine → GnK X ip A R PY W c fs K J D → W k s0 b fo Z → MonoZ Z → GN X b fo ip σ H s → t PY D Z k σ H →
    Seg (model X.prog X.w) A R (GnY X PY W) n s0 c ((exec st X.env).wrap K J gd lv) fs s
structure GnSs (X : Cx) (st : List Stmt) (t : TGq) : Prop where
  run : ∀ (A : Around) (ip : List (Addr × Obj)) (R : GenEnd) (PY : PYK) (W : WcN) (n k : Nat) (s0 : Shared) (c : Code) (fs : List Frame) (K : Flow → Sem PySem.Fin) (J : Value → Sem PySem.Fin) (gd : Bool → Bool) (lv : List Value → List Value) (s : Shared) (σ : L2.St) (H : Hp) (D : GqEnds) (b : Bs) (fo : List (Addr × Obj)) (Z : ZK),
    GnC X ip A c fs gd → n + k = sizeLine → GnK X ip A R PY W c fs K J D → W k s0 b fo Z → MonoZ Z → GN X b fo ip σ H s → t PY D Z k σ H →
    Seg (model X.prog X.w) A R (GnY X PY W) n s0 c ((execs st X.env).wrap K J gd lv) fs s
section
variable {X : Cx} [WW X.w] {st : Stmt} {rest : List Stmt}
def tNPlain (t : Bs → TS) : TGq := fun _ D Z k σ H => ∀ b, t b (D.at Z k) σ H
def tNIf (tc : Bs → TT) (t u : TGq) : TGq := fun PY D Z k σ H => ∀ b, tc b σ H fun b' H1 => if b' = true then t PY D Z k σ H1 else u PY D Z k σ H1
def tNYield (te : Bs → TE) : TGq := fun PY D Z k σ H => k < sizeLine ∧ ∀ b, te b σ H fun x H1 => ∃ Hf1, PY k x Hf1 H1 ∧ Z Hf1 ∧ ∀ (Z' : ZK) Hf' H', MonoZ Z' → Gr Hf1 H1 Hf' H' → Z' Hf' → D.nx Z' (k + 1) σ H'
def tNFor (wi : Bs → TI) (g : Bs → TG) (tb : TGq) : TGq := fun PY D Z k σ H => ∀ b, wi b σ H fun J H1 => ∃ W : Nat → Nat → ZK → Nat → L2.St → Hp → Prop, (∃ m, W 0 m Z k σ H1) ∧ ∀ i m Z k σ H, MonoZ Z → W i m Z k σ H →
  (J.stop i H ∧ D.nx Z k σ H) ∨ (J.go i H ∧ ∃ N : ZK → Nat → L2.St → Hp → Prop, (∀ Z' k' σ' H', N Z' k' σ' H' → ∃ m', m' < m ∧ W (i + 1) m' Z' k' σ' H') ∧ ∀ x H', J.yld i H x H' → ∀ b2, g b2 x σ H' fun σ2 H2 => tb PY { D with nx := N, ct := N, bk := D.nx } Z k σ2 H2)
end
end FL
namespace FL
variable [HW]
open PySem PySem.Spec L2 PyProof.Rows GenW

/-! ### a def that yields, for any consumer -/
structure TF (P : Program) (w : World) (outer : List PySem.Env) (a : Addr) (g : Nat) (b : Bs) (fo : List (Addr × Obj)) (H' : Hp) (s1 : Shared) : Prop where
  os : s1.os = b.1.os
  bare : AllBare s1.gens
  lim : s1.heap.NoLimit
  gen : s1.heap.IsGen a g
  genN : H' a = none
  un : Un (frs outer) [] b.2 H' b.1.heap s1.heap
  hok : HOk P w H' s1.heap
  fo : ∀ p ∈ fo, s1.heap.get? p.1 = some p.2 ∧ H' p.1 = none
def EndN (P : Program) (w : World) (outer : List PySem.Env) (a : Addr) (g : Nat) (W : WcN) (Q : CtK) (n : Nat) (s0 s1 : Shared) : Prop :=
  ∃ H' k b fo Z, W k s0 b fo Z ∧ TF P w outer a g b fo H' s1 ∧ n + k = sizeLine ∧ Q Z k H'
def RNo (F : Nat → Shared → Shared → Prop) : GenEnd := fun n s0 r s1 => ((r = .ok (.ret .none) ∨ r = .ok .next) ∧ F n s0 s1) ∨ ∃ e, r = .error e ∧ False
def ItemN (P : Program) (w : World) (base : Heap) (outer : List PySem.Env) (n0 : Nat) (a : Addr) (g : Nat) (PY : PYK) (W : WcN) : Protocol := fun n s0 v s1 kap =>
  ∃ k x b fo Z Hf' H', n + 1 + k = sizeLine ∧ RelV x v ∧ W k s0 b fo Z ∧ TF P w outer a g b fo H' s1 ∧ PY k x Hf' H' ∧ Z Hf' ∧
    ∀ u s' b' fo' Z' Hf'' H'', WK P w base outer n0 fo H' s1 b' fo' H'' s' → W (k + 1) s' b' fo' Z' → MonoZ Z' → Z' Hf'' → Gr Hf' H' Hf'' H'' → kap (.send (sent u)) s'
def MadeN (P : Program) (w : World) (base : Heap) (k : Nat) (outer : List PySem.Env) (H Hf : Hp) (s : Shared) (PY : PYK) (Q : CtK) (u : Value) (s' : Shared) : Prop :=
  ∃ (a : Addr) (g : Nat) (c : Code), u = .ref a ∧ s.heap.objs.size ≤ a ∧ a < s'.heap.objs.size ∧ s'.heap.IsGen a g ∧ s'.gens[g]? = some (.fresh c) ∧ s'.os = s.os ∧ AllBare s'.gens ∧ s'.heap.NoLimit ∧ (∀ b o, s.heap.get? b = some o → s'.heap.get? b = some o) ∧
    ∀ (A : Around) (s2 : Shared) (W : WcN) (b' : Bs) (fo' : List (Addr × Obj)) (Z' : ZK) (Hf' H' : Hp), Room k A → A.frames = some outer → WK P w base outer s.heap.objs.size [] H s' b' fo' H' s2 → W 0 s2 b' fo' Z' → MonoZ Z' → Z' Hf' → Gr Hf H Hf' H' →
      Seg (model P w) A (RNo (EndN P w outer a g W Q)) (ItemN P w base outer s.heap.objs.size a g PY W) sizeLine s2 c ((model P w).den c) [] s2
structure QFnN (P : Program) (w : World) (K : PySem.W.Frag) (mg : Str → Option Value) (base : Heap) (k : Nat) (f : Addr) (fd : FuncData) (ps : List Str) (sp : SpQ) : Prop where
  len : ∀ vs H Hf PY Q, sp vs H Hf PY Q → vs.length = ps.length
  run : ∀ (A : Around) (outer : List PySem.Env) (s : Shared) (H Hf : Hp) (args : Args) (us : List Value) (vs : List V) (PY : PYK) (Q : CtK), Room k A → Env0 P w K mg base A outer s H → BindsTo s fd args (ps.zip us) → Vals vs us → sp vs H Hf PY Q →
    codeAny (model P w) A (.call (.ref f) args) (fun r s' => match r with | .ok (.ret u) => MadeN P w base k outer H Hf s PY Q u s' | _ => False) s

end FL
namespace FL
variable [HW]
open PySem PySem.Spec L2

/-! ### .. by its mirror -/
def wN (X : Cx) (st : Stmt) : TGq := fun PY D Z k σ H => Lk (∀ (A : Around) (ip : List (Addr × Obj)) (R : GenEnd) (W : WcN) (n : Nat) (s0 : Shared) (c : Code) (fs : List Frame) (K : Flow → Sem PySem.Fin) (J : Value → Sem PySem.Fin) (gd : Bool → Bool) (lv : List Value → List Value) (s : Shared) (b : Bs) (fo : List (Addr × Obj)),
  GnC X ip A c fs gd → n + k = sizeLine → GnK X ip A R PY W c fs K J D → W k s0 b fo Z → MonoZ Z → GN X b fo ip σ H s → Seg (model X.prog X.w) A R (GnY X PY W) n s0 c ((exec st X.env).wrap K J gd lv) fs s)
def wNs (X : Cx) (st : List Stmt) : TGq := fun PY D Z k σ H => Lk (∀ (A : Around) (ip : List (Addr × Obj)) (R : GenEnd) (W : WcN) (n : Nat) (s0 : Shared) (c : Code) (fs : List Frame) (K : Flow → Sem PySem.Fin) (J : Value → Sem PySem.Fin) (gd : Bool → Bool) (lv : List Value → List Value) (s : Shared) (b : Bs) (fo : List (Addr × Obj)),
  GnC X ip A c fs gd → n + k = sizeLine → GnK X ip A R PY W c fs K J D → W k s0 b fo Z → MonoZ Z → GN X b fo ip σ H s → Seg (model X.prog X.w) A R (GnY X PY W) n s0 c ((execs st X.env).wrap K J gd lv) fs s)
section
variable {X : Cx} [WW X.w] {st : Stmt} {sts : List Stmt} {PY : PYK} {Z : ZK} {k : Nat} {σ : L2.St} {H : Hp} {D : GqEnds}
end
def FU (X : Cx) (O O' : List Nat) (st : Stmt) (G : List D → Env → Option GO) : Prop := MonoG G ∧
  ∀ (φ : Nat → Option Addr) (Hf0 H0 : Hp) (ρ : Env) (σ : L2.St) (Hf H : Hp) (acc : List D) (Z : ZK) (out : GO) (Dn : GqEnds) (PY : PYK), SR X.K φ Hf0 H0 O ρ σ Hf H → MonoZ Z → Z Hf → G acc ρ = some out → PYok X.K φ Hf0 H0 PY out.out → ZPost X.K φ Hf0 H0 O' Hf Dn out → wN X st PY Dn Z acc.length σ H
def FUs (X : Cx) (O O' : List Nat) (sts : List Stmt) (G : List D → Env → Option GO) : Prop := MonoG G ∧
  ∀ (φ : Nat → Option Addr) (Hf0 H0 : Hp) (ρ : Env) (σ : L2.St) (Hf H : Hp) (acc : List D) (Z : ZK) (out : GO) (Dn : GqEnds) (PY : PYK), SR X.K φ Hf0 H0 O ρ σ Hf H → MonoZ Z → Z Hf → G acc ρ = some out → PYok X.K φ Hf0 H0 PY out.out → ZPost X.K φ Hf0 H0 O' Hf Dn out → wNs X sts PY Dn Z acc.length σ H
section
variable {X : Cx} [WW X.w] {O O' O1 : List Nat} {st : Stmt} {sts : List Stmt} {e : Expr} {pos yp : Pos} {F : Env → Option D} {G G2 : List D → Env → Option GO}
end
structure CalNM (P : Program) (w : World) (K : PySem.W.Frag) (mg : Str → Option Value) (base : Heap) (k : Nat) (c m : Str) (n : Nat) (mir : List D → Option (List D)) : Prop where
  ok : ∃ (f : Addr) (fd : FuncData) (ps : List Str), QFnN P w K mg base k f fd ps (spZ K n mir) ∧ Cls K (He.ga K c) ∧ Meth K (He.ga K c) m f ∧ Binds K fd ps []
section
variable {P : Program} {w : World} [WW w] {K : PySem.W.Frag} {mg : Str → Option Value} {base : Heap} {k : Nat} {ps N : List Str} {c m q : Str} {st : Stmt} {G : List D → Env → Option GO} {kws : List (Str × V)}
end
end FL
namespace FL
variable [HW]
open PySem PySem.Spec L2 PyProof.Rows GenW

/-! ### any piece of code leaves the generators that sleep -/
def RU {α : Type} (enc : α → Flow) (Q : α → Shared → Prop) (E : Value → Shared → Prop) : Result → Shared → Prop
  | .ok f, s' => ∃ a, enc a = f ∧ Q a s'
  | .error e, s' => E e s'
/-! ### lists of our own that the generator does not see -/
def hideA (As : List Addr) (H : Hp) : Hp := fun a => if As.contains a = true then none else H a
def addA (As : List Addr) (Ho H : Hp) : Hp := fun a => if As.contains a = true then Ho a else H a
section
variable {As : List Addr} {H H' Ho : Hp} {a : Addr} {u : HO}
theorem mem_cont {a : Addr} : As.contains a = true ↔ a ∈ As := by simp
theorem hide_none (h : H a = none) : hideA As H a = none := by unfold hideA; split <;> first | rfl | exact h
theorem hide_in (h : a ∈ As) : hideA As H a = none := by unfold hideA; rw [if_pos (mem_cont.mpr h)]
theorem hide_out (h : a ∉ As) : hideA As H a = H a := by unfold hideA; rw [if_neg fun z => h (mem_cont.mp z)]
theorem hide_some (h : hideA As H a = some u) : a ∉ As ∧ H a = some u := by
  unfold hideA at h
  split at h
  · cases h
  · rename_i z; exact ⟨fun m => z (mem_cont.mpr m), h⟩
def OwnL (As : List Addr) (H : Hp) : Prop := ∀ a ∈ As, ∃ vs, H a = some (.lst vs)
theorem OwnL.ne (h : OwnL As H) (e : H a = some u) (hu : ∀ vs, u ≠ .lst vs) : a ∉ As := fun m => by
  obtain ⟨vs, q⟩ := h a m
  rw [q] at e
  exact hu vs (Option.some.inj e).symm
theorem OwnL.none (h : OwnL As H) (e : H a = none) : a ∉ As := fun m => by
  obtain ⟨vs, q⟩ := h a m
  rw [q] at e; cases e
theorem hok_hide {P : Program} {w : World} [WW w] {h : Heap} (hA : OwnL As H) (hok : HOk P w H h) : HOk P w (hideA As H) h := fun b u e => by
  obtain ⟨_, e'⟩ := hide_some e
  exact (hok b u e').stay (fun _ _ _ q => q) (fun c q => by rw [hide_out (hA.ne q fun vs z => by cases z)]; exact q) fun c xs q => by rw [hide_out (hA.ne q fun vs z => by cases z)]; exact q
end
section
variable {X : Cx} [WW X.w] {pins : List (Addr × Obj)} {σ : L2.St} {H Hc H' : Hp} {s s0 s1 : Shared} {As : List Addr}
theorem lst_obj (I : Inv X pins σ H s) {a : Addr} {vs : List V} (e : H a = some (.lst vs)) : ∃ arr c, s.heap.get? a = some (lstObj arr c) := by
  obtain ⟨_, its, n, _, e⟩ := I.hok a _ e
  exact ⟨_, _, e⟩
theorem own_pin (I : Inv X pins σ H s) (hA : OwnL As H) : ∀ p ∈ pinsAt As s.heap, s.heap.get? p.1 = some p.2 ∧ hideA As H p.1 = none ∧ p.1 ≠ X.env.locals ∧ p.1 ∉ frs X.stack ∧ ∀ v, p.2.data ≠ .cell v := fun p hp => by
  obtain ⟨m, e⟩ := of_pinsAt hp
  obtain ⟨vs, q⟩ := hA _ m
  refine ⟨e, hide_in m, fun z => ?_, fun z => ?_, fun v z => ?_⟩
  · rw [z] at q; rw [I.free] at q; cases q
  · rw [I.stkFree _ z] at q; cases q
  · obtain ⟨arr, c, e'⟩ := lst_obj I q
    rw [e] at e'
    have z' := congrArg Obj.data (Option.some.inj e')
    rw [z] at z'
    cases z'
end

/-! ### all that is nobody's, as it stands -/
def isCl (d : Obj) : Bool := match d.data with | .cell _ => true | _ => false
theorem of_isCl {o : Obj} (h : isCl o = false) : ∀ v, o.data ≠ .cell v := fun v e => by
  unfold isCl at h
  rw [e] at h
  cases h
def privG (n0 : Nat) (H : Hp) (h : Heap) : List (Addr × Obj) := (List.range h.objs.size).filterMap fun a => if n0 ≤ a ∧ (H a).isNone = true then (match h.get? a with | some o => if isCl o = true then none else some (a, o) | none => none) else none
theorem of_privG {n0 : Nat} {H : Hp} {h : Heap} {p : Addr × Obj} (hp : p ∈ privG n0 H h) : n0 ≤ p.1 ∧ h.get? p.1 = some p.2 ∧ H p.1 = none ∧ ∀ v, p.2.data ≠ .cell v := by
  obtain ⟨a, _, e⟩ := List.mem_filterMap.mp hp
  split at e
  · rename_i hh
    split at e
    · rename_i o ho
      split at e
      · cases e
      · rename_i hc
        cases e
        exact ⟨hh.1, ho, Option.isNone_iff_eq_none.mp hh.2, of_isCl (by simpa using hc)⟩
    · cases e
  · cases e
theorem Inv.privG {X : Cx} [WW X.w] {pins : List (Addr × Obj)} {σ : L2.St} {H : Hp} {s : Shared} {n0 : Nat} (I : Inv X pins σ H s) (hC : X.env.locals < n0) (hF : ∀ b ∈ X.fs, b < n0) : Inv X (pins ++ FL.privG n0 H s.heap) σ H s :=
  I.pins_of fun p hp => (List.mem_append.mp hp).elim (fun z => I.pin p (List.mem_append_right _ z)) fun z => by
    obtain ⟨l, e, n, d⟩ := of_privG z
    refine ⟨e, n, fun q => ?_, fun q => ?_, d⟩
    · rw [q] at l; exact absurd (Nat.lt_of_lt_of_le hC l) (Nat.lt_irrefl _)
    · exact absurd (Nat.lt_of_lt_of_le (hF _ q) l) (Nat.lt_irrefl _)

/-! ### the slots' lists -/
def owA (O : List Nat) (ρ : Env) (σ : List (Option V)) : List Addr := O.filterMap fun i => match ρ[i]?, σ[i]? with | some (some _), some (some (V.ref a)) => some a | _, _ => none
theorem of_owA {O : List Nat} {ρ : Env} {σ : L2.St} {a : Addr} (h : a ∈ owA O ρ σ) : ∃ i d, i ∈ O ∧ ρ[i]? = some (some d) ∧ σ[i]? = some (some (.ref a)) := by
  obtain ⟨i, m, e⟩ := List.mem_filterMap.mp h
  split at e
  · rename_i d b h1 h2
    cases e
    exact ⟨i, d, m, h1, h2⟩
  · cases e
section
variable {K : PySem.W.Frag} {φ : Nat → Option Addr} {Hf0 H0 Hf H Hf1 H1 Hf' H' : Hp} {O : List Nat} {ρ : Env} {σ : L2.St}
theorem SR.owA (S : SR K φ Hf0 H0 O ρ σ Hf H) {a : Addr} (h : a ∈ FL.owA O ρ σ) : (∃ vs, H a = some (.lst vs)) ∧ Hf a = none ∧ H0 a = none := by
  obtain ⟨i, d, m, e1, e2⟩ := of_owA h
  obtain ⟨a', xs, vs, _, q2, q3, q4, q5, _⟩ := S.own i d e1 m
  rw [q2] at e2
  cases e2
  exact ⟨⟨vs, q3⟩, q4, q5⟩
theorem SR.lower (g : Gr Hf0 H0 Hf1 H1) (S : SR K φ Hf1 H1 O ρ σ Hf H) : SR K φ Hf0 H0 O ρ σ Hf H :=
  ⟨S.len, S.sub, g.f.trans S.gf, g.h.trans S.gh, fun a o h1 h2 => S.gn a o (g.h _ _ h1) (g.n a o h1 h2), S.val, fun i d e m => by
    obtain ⟨a, xs, vs, e1, e2, e3, e4, e5, r⟩ := S.own i d e m
    exact ⟨a, xs, vs, e1, e2, e3, e4, g.h.free e5, r⟩, S.ne⟩
theorem RtK.lower {fr : Bool} {d : D} {rt : VK} (g : Gr Hf0 H0 Hf1 H1) (h : RtK K φ Hf0 H0 fr d rt) : RtK K φ Hf1 H1 fr d rt := by
  cases fr with
  | false => exact fun v Hf' H' g' r => h v Hf' H' (g.trans g') r
  | true => exact fun a xs vs Hf' H' e g' h1 h2 h3 r => h a xs vs Hf' H' e (g.trans g') (g.h.free h1) h2 h3 r
end
end FL
namespace FL
variable [HW]
open PySem PySem.Spec L2 PyProof.Rows GenW

/-! ### o.m(..) as a generator that a loop will turn -/
def QNn (X : Cx) (O : List Nat) (j : Nat) (e : Expr) (F : Env → Option (List D)) : Prop :=
  ∀ (φ : Nat → Option Addr) (Hf0 H0 : Hp) (ρ : Env) (σ : L2.St) (Hf H : Hp) (out : List D), SR X.K φ Hf0 H0 O ρ σ Hf H → F ρ = some out → ∀ pins s, Inv X pins σ H s →
    wpAny (model X.prog X.w) X.A (eval e X.env) (fun u s' => ∃ Hf1 H1 sc, Gr Hf H Hf1 H1 ∧ Inv X pins σ H1 sc ∧ MadeN X.prog X.w X.base j X.stack H1 Hf1 sc (PYs X.K φ Hf1 H1 out) (Qs Hf1 H1 out) u s') X.xe s
section
variable {X : Cx} [WW X.w] {O : List Nat} {es : List Expr} {e o : Expr} {c m : Str} {pos pos' apos : Pos} {Fo : Env → Option D} {Fs : Env → Option (List D)} {k j n : Nat} {mir : List D → Option (List D)}
end
section
variable {X : Cx} [WW X.w] {pins pins7 : List (Addr × Obj)} {σ : L2.St} {H Hc H' H7 : Hp} {s s0 s1 s7 : Shared} {As : List Addr}
theorem WK.of {n0 : Nat} {fo : List (Addr × Obj)} (I7 : Inv X pins7 σ H7 s7) (hA : OwnL As H7) (os : s7.os = s1.os) (hF : ∀ b ∈ frs X.stack, b < n0) (hsz : n0 ≤ s7.heap.objs.size)
    (hpriv : ∀ a o, n0 ≤ a → s1.heap.get? a = some o → H' a = none → a ∉ fo.map Prod.fst → (∀ v, o.data ≠ .cell v) → (a, o) ∈ pins7) :
    WK X.prog X.w X.base X.stack n0 fo H' s1 (cutS n0 s7, hideA As H7) (pinsAt As s7.heap) (hideA As H7) s7 where
  os := os
  b1 := rfl
  bare := I7.bare
  keep := fun a o l e n hf d => let z := I7.pin (a, o) (List.mem_append_right _ (hpriv a o l e n hf d)); ⟨z.1, hide_none z.2.1⟩
  bas := fun a o e => let z := I7.bs a o e; ⟨z.1, hide_none z.2⟩
  funs := funs_cut I7.stack hF
  frf := fun a ha => hide_none (I7.stkFree a ha)
  hok := hok_hide hA I7.hok
  pins := fun p hp => let z := own_pin I7 hA p hp; ⟨z.1, z.2.1, z.2.2.2.1, z.2.2.2.2⟩
  pne := fun p hp o l e n d => by
    apply Classical.byContradiction
    intro hf
    have z := (I7.pin (p.1, o) (List.mem_append_right _ (hpriv p.1 o l e n hf d))).2.1
    exact hA.none z (of_pinsAt hp).1
  size := hsz
end
def hidF (O : List Nat) (Fs : Env → Option (List D)) : Env → Option (List D) := fun ρ => Fs (wipeE ρ O)
section
variable {X : Cx} [WW X.w] {O O1 L : List Nat} {pos : Pos}
end
end FL
namespace FL
variable [HW]
open PySem PySem.Spec PyProof.Rows L2
/-! ### exact tuples as data: D.xtp -/
mutual
def ux : D → D
  | .xtp xs => .tup (uxs xs) | .tup xs => .tup (uxs xs) | .lst xs => .lst (uxs xs) | .klst xs => .klst (uxs xs)
  | .non => .non | .bl b => .bl b | .int i => .int i | .str x => .str x | .obj i => .obj i | .ins c fs xs => .ins c fs xs | .dct ks xs => .dct ks xs | .dkt fz ks xs => .dkt fz ks xs
def uxs : List D → List D
  | [] => []
  | d :: ds => ux d :: uxs ds
end
section
variable {K : PySem.W.Frag} {φ : Nat → Option Addr} {H : Hp}
mutual
theorem Rp.ux : ∀ {d : D} {v : V}, Rp K φ H d v → Rp K φ H (FL.ux d) v
  | _, _, .non => .non
  | _, _, .bl b => .bl b
  | _, _, .int i => .int i
  | _, _, .str x => .str x
  | _, _, .tup s r => .tup s (RpAll.ux r)
  | _, _, .xtp s _ r => .tup (.inl (.inr ⟨_, s⟩)) (RpAll.ux r)
  | _, _, .lst s r => .lst s (RpAll.ux r)
  | _, _, .klst s r => .klst s (RpAll.ux r)
  | _, _, .obj h => .obj h
  | _, _, .ins s l r => .ins s l r
  | _, _, .dct s l r => .dct s l r
  | _, _, .dkt s a b c d f g r t => .dkt s a b c d f g r t
theorem RpAll.ux : ∀ {ds : List D} {vs : List V}, RpAll K φ H ds vs → RpAll K φ H (uxs ds) vs
  | _, _, .nil => .nil
  | _, _, .cons r t => .cons (r.ux) (RpAll.ux t)
end
end
section
variable {X : Cx} [WW X.w] {O : List Nat} {o e : Expr} {F G : Env → Option D} {p pos : Pos} {nm : Str}
def eUx (F : Env → Option D) : Env → Option D := fun ρ => match F ρ with | some d => some (ux d) | none => none
def mUx (M : Env → List Ob → Option (D × List Ob)) : Env → List Ob → Option (D × List Ob) := fun ρ S => match M ρ S with | some (d, S') => some (ux d, S') | none => none
def eTx (F : Env → Option D) : Env → Option D := fun ρ => match F ρ with | some (.xtp ds) => some (.tup ds) | _ => none
def eTupX (F : Env → Option D) : Env → Option D := fun ρ => match F ρ with | some (.dct ks _) => some (.xtp (ks.map D.str)) | _ => none
def eTupLX (F : Env → Option D) : Env → Option D := fun ρ => match F ρ with | some (.klst xs) => some (.xtp xs) | some (.lst xs) => some (.xtp xs) | _ => none
end
end FL
namespace FL
variable [HW]
open PySem PySem.Spec L2 PyProof.Rows
/-! ### `a and b` as a value, over what changes objects -/
def mAnd (M1 M2 : Env → List Ob → Option (D × List Ob)) : Env → List Ob → Option (D × List Ob) := fun ρ S => match M1 ρ S with
  | some (d, S1) => (match truD d with | some true => M2 ρ S1 | some false => some (d, S1) | none => none)
  | none => none
section
variable {X : Cx} [WW X.w] {O : List Nat} {a b e : Expr} {pos : Pos} {M1 M2 : Env → List Ob → Option (D × List Ob)}
end
end FL
namespace FL
variable [HW]
open PySem PySem.Spec L2 PyProof.Rows

/-! ### an exception out of a comprehension -/
def offH (h : Heap) (C : Addr) : Heap := h.update C fun o => { o with data := .freed }
section
variable {M : Model} {A : Around} {E : Value → Shared → Prop} {s : Shared} {Z : Obj → Prop} {B : Heap} {env : PySem.Env} {outer : List PySem.Env} {L L' a : Addr} {fl : Value} {Q : Unit → Shared → Prop}
end
abbrev blkX (X : Cx) (s : Shared) (H : Hp) (scope : Scope) (ce : PySem.Env) (fp : List Addr) (xe : Value → Shared → Prop) : Cx := (X.blk s H scope ce fp).wish xe
def tLcX (wi : TI) (g : TG) (te : L2.St → TE) (vs : List Nat) : TE := fun σ H Q => wi σ H fun J H1 => ∀ D, H1 D = none → ∃ Wv : Nat → Nat → Hp → Prop, (∃ m, Wv 0 m (upd H1 D (.lst []))) ∧ ∀ i m H2, Wv i m H2 →
  (J.stop i H2 ∧ Q (.ref D) H2) ∨ (J.go i H2 ∧ ∃ Nx : Hp → Prop, (∀ H', Nx H' → ∃ m', m' < m ∧ Wv (i + 1) m' H') ∧ ∀ x H', J.yld i H2 x H' → g x (L2.wipe σ vs) H' fun σ2 H3 => L2.wipe σ2 vs = L2.wipe σ vs ∧
    te σ σ2 H3 fun y H4 => ∃ acc, H4 D = some (.lst acc) ∧ acc.length < sizeLine ∧ Nx (upd H4 D (.lst (acc ++ [y]))))
end FL
namespace FL
variable [HW]
open PySem PySem.Spec L2 PyProof.Rows

/-! ### [e for x in xs], e raises at some x -/
def xCompL (g : D → Env → Option Env) (E : Env → Option D) (GX : Env → Option XC) (ρ : Env) : List D → Option XC
  | [] => none
  | d :: ds => match g d ρ with
    | none => none
    | some ρ2 => match E ρ2 with
      | some _ => xCompL g E GX ρ ds
      | none => GX ρ2
def xComp (vs : List Nat) (Fi : Env → Option (List D)) (g : D → Env → Option Env) (E : Env → Option D) (GX : Env → Option XC) : Env → Option XC := fun ρ =>
  match Fi ρ with | some ds => if ds.length ≤ sizeLine then xCompL g E GX (wipeE ρ vs) ds else none | none => none
def uEX (X : Cx) (W : WX) (scope : Scope) (e : Expr) : L2.St → TE := fun σ σ2 H Q => ∀ (s : Shared) (H0 : Hp) (C : Addr) (cl : List (Str × Addr)) (fp : List Addr) (xe : Value → Shared → Prop),
  Takes (blkX X s H0 scope (compEnvC scope cl C X.env) fp xe) (fun c d _ H => W c d σ H) → wE (blkX X s H0 scope (compEnvC scope cl C X.env) fp xe) e σ2 H Q
def uGX (X : Cx) (scope : Scope) (e : Expr) : TG := fun v σ H Q => ∀ (s : Shared) (H0 : Hp) (C : Addr) (cl : List (Str × Addr)) (fp : List Addr) (xe : Value → Shared → Prop), wG (blkX X s H0 scope (compEnvC scope cl C X.env) fp xe) e v σ H Q
/-! ### a class method that makes one of its class -/
structure CMd (K : PySem.W.Frag) (C : Addr) (m : Str) (f : Addr) : Prop where
  rd : ClX.CRead K C (.type "type")
  cm : ∃ p, ClX.CMet K C (.type "type") m p f
def clmB (K : PySem.W.Frag) (c m : Str) : Bool :=
  PySem.W.readsIn K (He.ga K c) (.type "type") && (He.eqO (PySem.W.specialIn K (.ref (He.ga K c)) "__getattribute__") (some (some (.builtin "type.__getattribute__"))) &&
    ((match PySem.W.findCls K (.ref (He.ga K c)) (.type "type") m with | some (.get (.builtin b) (.ref p) .none (.ref C)) => decide (b = "classmethod.__get__") && (decide (C = He.ga K c) && (match PySem.W.recIn K p "classmethod" with | some (.ref f :: _) => decide (f = pAd K (He.ga K c) m) | _ => false)) | _ => false) &&
    PySem.W.fnIn K (pAd K (He.ga K c) m)))
section
variable {X : Cx} [WW X.w] {O : List Nat} {e o : Expr} {es : List Expr} {c m x : Str} {p pos apos : Pos} {C fa : Addr} {CX : CXT} {k j n i : Nat} {fd : FuncData} {ps fs : List Str} {sp : Sp} {ta : TE} {t : TA} {Fs : Env → Option (List D)} {mir : List D → Option D} {mi : List D → Option (List D)}
end
end FL
namespace FL
variable [HW]
open PySem PySem.Spec L2 PyProof.Rows

/-! ### the body of a class method: return cls(..), cls in the first slot -/
def FEc (X : Cx) (C : Addr) (e : Expr) (F : Env → Option D) : Prop :=
  ∀ (φ : Nat → Option Addr) (Hf0 H0 : Hp) (ρ : Env) (σ : L2.St) (Hf H : Hp) (d : D) (Q : VK), σ[0]? = some (some (.ref C)) → SR X.K φ Hf0 H0 [] ρ σ Hf H → F ρ = some d → (∀ v Hf' H', Gr Hf H Hf' H' → Rp X.K φ Hf' d v → Q v H') → wE X e σ H Q
def FSc (X : Cx) (C : Addr) (sts : List Stmt) (F : Env → Option D) : Prop :=
  ∀ (φ : Nat → Option Addr) (Hf0 H0 : Hp) (ρ : Env) (σ : L2.St) (Hf H : Hp) (d : D) (Dn : Ends), σ[0]? = some (some (.ref C)) → SR X.K φ Hf0 H0 [] ρ σ Hf H → F ρ = some d → (∀ v Hf' H', Gr Hf H Hf' H' → Rp X.K φ Hf' d v → Dn.rt v H') → wSs X sts Dn σ H
def FEcX (X : Cx) (W : WX) (C : Addr) (e : Expr) (G : Env → Option XC) : Prop :=
  ∀ (φ : Nat → Option Addr) (Hf0 H0 : Hp) (ρ : Env) (σ : L2.St) (Hf H : Hp) (x : XC) (Q : VK), σ[0]? = some (some (.ref C)) → SR X.K φ Hf0 H0 [] ρ σ Hf H → G ρ = some x → XPost X.K φ Hf0 H0 [] Hf x ρ W → wE X e σ H Q
def FScX (X : Cx) (W : WX) (C : Addr) (sts : List Stmt) (G : Env → Option XC) : Prop :=
  ∀ (φ : Nat → Option Addr) (Hf0 H0 : Hp) (ρ : Env) (σ : L2.St) (Hf H : Hp) (x : XC) (Dn : Ends), σ[0]? = some (some (.ref C)) → SR X.K φ Hf0 H0 [] ρ σ Hf H → G ρ = some x → XPost X.K φ Hf0 H0 [] Hf x ρ W → wSs X sts Dn σ H
section
variable {X : Cx} [WW X.w] {W : WX} {C : Addr} {e : Expr} {es : List Expr} {sts : List Stmt} {c x : Str} {p pos : Pos} {k j n : Nat} {fs : List Str} {F : Env → Option D} {Fs : Env → Option (List D)} {G : Env → Option XC} {mi : List D → Option (List D)}
end
def spC (K : PySem.W.Frag) (C : Addr) (n : Nat) (m : List D → Option D) : Sp := fun vs H Q E => ∃ us, vs = .ref C :: us ∧ spF K false n m us H Q E
def spCX (K : PySem.W.Frag) (C : Addr) (n : Nat) (m : List D → Option XC) : Sp := fun vs H Q E => ∃ us, vs = .ref C :: us ∧ spX K n m us H Q E
def runC {α : Type} (N n : Nat) (G : Env → Option α) (ds : List D) : Option α := G (none :: envOf (N - 1) n ds)
structure CalCl (P : Program) (w : World) (K : PySem.W.Frag) (mg : Str → Option Value) (base : Heap) (k : Nat) (c m : Str) (n : Nat) (mir : List D → Option D) : Prop where
  ok : ∃ (fd : FuncData) (ps : List Str), FnOk P w K mg base CX0 k (pAd K (He.ga K c) m) fd ps (spC K (He.ga K c) n mir) ∧ mg c = some (.ref (He.ga K c)) ∧ CMd K (He.ga K c) m (pAd K (He.ga K c) m) ∧ Binds K fd ps []
structure CalClX (P : Program) (w : World) (K : PySem.W.Frag) (mg : Str → Option Value) (base : Heap) (k : Nat) (c m : Str) (n : Nat) (mir : List D → Option XC) : Prop where
  ok : ∃ (fd : FuncData) (ps : List Str), FnOk P w K mg base (L2.CX P w) k (pAd K (He.ga K c) m) fd ps (spCX K (He.ga K c) n mir) ∧ mg c = some (.ref (He.ga K c)) ∧ CMd K (He.ga K c) m (pAd K (He.ga K c) m) ∧ Binds K fd ps []
section
variable {K : PySem.W.Frag} {φ : Nat → Option Addr} {Hf H : Hp} {N ps : List Str} {C : Addr} {us : List V} {ds : List D} {n N' : Nat}
end
section
variable {P : Program} {w : World} [WW w] {K : PySem.W.Frag} {mg : Str → Option Value} {base : Heap} {k : Nat} {ps N : List Str} {q c m : Str} {st : Stmt} {N' n : Nat}
end
section
variable {X : Cx} [WW X.w] {W : WX} {O : List Nat} {e : Expr} {es : List Expr} {c m : Str} {p pos apos : Pos} {k j n : Nat} {Fs : Env → Option (List D)} {mir : List D → Option D} {mirx : List D → Option XC}
end
end FL
namespace FL
variable [HW]
open PySem PySem.Spec L2 PyProof.Rows

/-! ### x = e, e raises -/
section
variable {X : Cx} [WW X.w] {W : WX} {O : List Nat} {e : Expr} {pos : Pos}
end
/-! ### x.replace(y, z), y and z written, where a token is out -/
def wAt (X : Cx) (es : List Expr) : TA := fun σ H Q => Lk (∀ pos pins s, 1 ≤ s.toks → Inv X pins σ H s → wpAny (model X.prog X.w) X.A (spliced (backTo pos (starEach es X.env))) (AP X pins σ Q) X.xe s)
def FAT (X : Cx) (O : List Nat) (es : List Expr) (F : Env → Option (List D)) : Prop :=
  ∀ (φ : Nat → Option Addr) (Hf0 H0 : Hp) (ρ : Env) (σ : L2.St) (Hf H : Hp) (ds : List D) (Q : List V → Hp → Prop), SR X.K φ Hf0 H0 O ρ σ Hf H → F ρ = some ds → (∀ vs Hf' H', Gr Hf H Hf' H' → RpAll X.K φ Hf' ds vs → Q vs H') → wAt X es σ H Q
def replD (y z : Str) : D → Option D
  | .str x => if x.length + (x.length + 1) * z.length ≤ 16777216 then some (.str (Txt.replace x y z)) else none
  | _ => none
section
variable {X : Cx} [WW X.w] {O : List Nat} {a o : Expr} {es : List Expr} {F : Env → Option D} {Fs : Env → Option (List D)} {x y z : Str} {j k : Nat} {c0 c1 apos pos : Pos} {op : Operator} {r : R2} {f : D → D → Option D}
end
end FL
namespace FL
variable [HW]
open PySem PySem.Spec L2 PyProof.Rows

/-! ### what raises over objects that change -/
structure XM where
  c : Str
  fs : List Str
  ds : List D
def XMPost (K : PySem.W.Frag) (φ : Nat → Option Addr) (B Bf : Hp) (O : List Nat) (Hf : Hp) (x : XM) (ρ : Env) (S : List Ob) (W : WX) : Prop :=
  ∀ (φ' : Nat → Option Addr) (σ' : L2.St) (dd : Addr) (vs : List V) (Hf' H' : Hp), Ext φ φ' → Same Hf Hf' → MSR K φ' B Bf O ρ S σ' Hf' H' → Hf' dd = some (.xd (x.fs.zip vs)) → x.fs.length = vs.length → RpAll K φ' Hf' x.ds vs → W (.ref (He.ga K x.c)) (some dd) σ' H'
theorem XMPost.mono {K : PySem.W.Frag} {φ φ1 : Nat → Option Addr} {B Bf : Hp} {O : List Nat} {Hf Hf1 : Hp} {x : XM} {ρ : Env} {S : List Ob} {W : WX} (e : Ext φ φ1) (s : Same Hf Hf1) (h : XMPost K φ B Bf O Hf x ρ S W) : XMPost K φ1 B Bf O Hf1 x ρ S W :=
  fun φ' σ' dd vs Hf' H' e' s' => h φ' σ' dd vs Hf' H' (e.trans e') (s.trans s')
def MX (X : Cx) (W : WX) (O O' : List Nat) (st : Stmt) (G : Env → List Ob → Option (XM × Env × List Ob)) : Prop :=
  ∀ (φ : Nat → Option Addr) (B Bf : Hp) (ρ : Env) (S : List Ob) (σ : L2.St) (Hf H : Hp) (x : XM) (ρ' : Env) (S' : List Ob) (Dn : Ends), MSR X.K φ B Bf O ρ S σ Hf H → G ρ S = some (x, ρ', S') → XMPost X.K φ B Bf O' Hf x ρ' S' W → wS X st Dn σ H
def MXs (X : Cx) (W : WX) (O O' : List Nat) (sts : List Stmt) (G : Env → List Ob → Option (XM × Env × List Ob)) : Prop :=
  ∀ (φ : Nat → Option Addr) (B Bf : Hp) (ρ : Env) (S : List Ob) (σ : L2.St) (Hf H : Hp) (x : XM) (ρ' : Env) (S' : List Ob) (Dn : Ends), MSR X.K φ B Bf O ρ S σ Hf H → G ρ S = some (x, ρ', S') → XMPost X.K φ B Bf O' Hf x ρ' S' W → wSs X sts Dn σ H
def MEX (X : Cx) (W : WX) (O : List Nat) (e : Expr) (G : Env → List Ob → Option (XM × List Ob)) : Prop :=
  ∀ (φ : Nat → Option Addr) (B Bf : Hp) (ρ : Env) (S : List Ob) (σ : L2.St) (Hf H : Hp) (x : XM) (S' : List Ob) (Q : VK), MSR X.K φ B Bf O ρ S σ Hf H → G ρ S = some (x, S') → XMPost X.K φ B Bf O Hf x ρ S' W → wE X e σ H Q
/-! the mirror's words -/
def xmHere (G : Env → List Ob → Option (XM × List Ob)) : Env → List Ob → Option (XM × Env × List Ob) := fun ρ S => match G ρ S with | some (x, S') => some (x, ρ, S') | none => none
def xmPure (G : Env → Option (XC × Env)) : Env → List Ob → Option (XM × Env × List Ob) := fun ρ S => match G ρ with | some (x, ρ') => some (⟨x.c, [x.f], [x.d]⟩, ρ', S) | none => none
def xmSeq (A : Env → List Ob → Option MOut) (GA G : Env → List Ob → Option (XM × Env × List Ob)) : Env → List Ob → Option (XM × Env × List Ob) := fun ρ S => match A ρ S with
  | some (.nx ρ' S') => G ρ' S'
  | some _ => none
  | none => GA ρ S
def xmNo : Env → List Ob → Option (XM × Env × List Ob) := fun _ _ => none
def xmIf (C : Env → List Ob → Option (Bool × List Ob)) (F G : Env → List Ob → Option (XM × Env × List Ob)) : Env → List Ob → Option (XM × Env × List Ob) := fun ρ S => match C ρ S with
  | some (true, S') => F ρ S'
  | some (false, S') => G ρ S'
  | none => none
section
variable {X : Cx} [WW X.w] {W : WX} {O O1 O' : List Nat} {st : Stmt} {sts : List Stmt} {e : Expr} {pos : Pos}
theorem mxs_no : MXs X W O O' sts xmNo := fun φ B Bf ρ S σ Hf H x ρ' S' Dn M hF P => nomatch hF
theorem mx_no : MX X W O O' st xmNo := fun φ B Bf ρ S σ Hf H x ρ' S' Dn M hF P => nomatch hF
theorem mx_pure {G : Env → Option (XC × Env)} (h : FX X W O O' st G) : MX X W O O' st (xmPure G) := fun φ B Bf ρ S σ Hf H x ρ' S' Dn M hF P => by
  unfold xmPure at hF
  split at hF
  · rename_i y ρ1 h1
    cases hF
    exact h φ _ _ ρ σ Hf H y ρ' Dn M.sr h1 fun σ' dd v Hf' H' s' S1 e1 r1 => P φ σ' dd [v] Hf' H' (.refl φ) s' (M.step S1) e1 rfl (.one r1)
  · cases hF
theorem mxs_hd {G : Env → List Ob → Option (XM × Env × List Ob)} (h : MX X W O O' st G) : MXs X W O O' (st :: sts) G := fun φ B Bf ρ S σ Hf H x ρ' S' Dn M hF P => toSs (pss_cons psW pssW) (h φ B Bf ρ S σ Hf H x ρ' S' _ M hF P)
theorem mxs_cons {A : Env → List Ob → Option MOut} {GA G : Env → List Ob → Option (XM × Env × List Ob)} (h : MS X O O1 st A) (hx : MX X W O O' st GA) (t : MXs X W O1 O' sts G) : MXs X W O O' (st :: sts) (xmSeq A GA G) := fun φ B Bf ρ S σ Hf H x ρ' S' Dn M hF P => by
  refine toSs (pss_cons psW pssW) ?_
  unfold xmSeq at hF
  split at hF
  · rename_i ρ1 S1 h1
    exact h φ B Bf ρ S σ Hf H _ _ M h1 fun φ1 σ1 Hf1 H1 e1 s1 M1 => t φ1 B Bf ρ1 S1 σ1 Hf1 H1 x ρ' S' Dn M1 hF (P.mono e1 s1)
  · cases hF
  · exact hx φ B Bf ρ S σ Hf H x ρ' S' _ M hF P
theorem mx_if {c : Expr} {C : Env → List Ob → Option (Bool × List Ob)} {s1 s2 : List Stmt} {G G2 : Env → List Ob → Option (XM × Env × List Ob)} (h : MT X O c C) (h1 : MXs X W O O' s1 G) (h2 : MXs X W O O' s2 G2) : MX X W O O' (.If c s1 s2 pos) (xmIf C G G2) := fun φ B Bf ρ S σ Hf H x ρ' S' Dn M hF P => by
  refine toS (ps_if ptW pssW pssW) ?_
  unfold xmIf at hF
  split at hF
  · rename_i S1 hb
    exact h φ B Bf ρ S σ Hf H true S1 _ M hb fun φ1 Hf1 H1 e1 s1 M1 => iteT (h1 φ1 B Bf ρ S1 σ Hf1 H1 x ρ' S' Dn M1 hF (P.mono e1 s1))
  · rename_i S1 hb
    exact h φ B Bf ρ S σ Hf H false S1 _ M hb fun φ1 Hf1 H1 e1 s1 M1 => iteF (h2 φ1 B Bf ρ S1 σ Hf1 H1 x ρ' S' Dn M1 hF (P.mono e1 s1))
  · cases hF
end
/-! ### a def, a method that raises over objects -/
def spEX (K : PySem.W.Frag) (n : Nat) (mir : List D → List Ob → Option (XM × List Ob)) : Sp := fun vs H _ E => ∃ (φ : Nat → Option Addr) (B Bf : Hp) (S : List Ob) (Hf : Hp) (ds : List D) (x : XM) (S' : List Ob), MDone K φ B Bf S Hf H ∧ RpAll K φ Hf ds vs ∧ ds.length = n ∧ mir ds S = some (x, S') ∧
  ∀ (φ' : Nat → Option Addr) (dd : Addr) (ws : List V) (Hf' H' : Hp), Ext φ φ' → Same Hf Hf' → MDone K φ' B Bf S' Hf' H' → Hf' dd = some (.xd (x.fs.zip ws)) → x.fs.length = ws.length → RpAll K φ' Hf' x.ds ws → E (.ref (He.ga K x.c)) (some dd) H'
def runMX (N n : Nat) (G : Env → List Ob → Option (XM × Env × List Ob)) (ds : List D) (S : List Ob) : Option (XM × List Ob) := match G (envOf N n ds) S with
  | some (x, _, S') => some (x, S')
  | none => none
structure CalMEX (P : Program) (w : World) (K : PySem.W.Frag) (mg : Str → Option Value) (base : Heap) (k : Nat) (c m : Str) (n : Nat) (mir : List D → List Ob → Option (XM × List Ob)) : Prop where
  ok : ∃ (f : Addr) (fd : FuncData) (ps : List Str), FnOk P w K mg base (L2N.CX P w) k f fd ps (spEX K n mir) ∧ Cls K (He.ga K c) ∧ Meth K (He.ga K c) m f ∧ Binds K fd ps []
section
variable {P : Program} {w : World} [WW w] {K : PySem.W.Frag} {mg : Str → Option Value} {base : Heap} {k : Nat} {a : Addr} {ps N : List Str} {x q c m : Str} {st : Stmt} {G : Env → List Ob → Option (XM × Env × List Ob)} {dvs : List V} {kws : List (Str × V)}
theorem fnOk_mx {fd : FuncData} {N' n : Nat} (F : FunD K x q (defArgs st) (defBody st) (defScope st) dvs kws a fd) (S : FnScope N ps (defScope st)) (hN : N' = N.length) (hn : n = ps.length) (O' : List Nat)
    (hb : ∀ (cdv : Value) (A : Around) (outer : List PySem.Env) (s : Shared) (H : Hp) (E : XK), Room k (A.deeper (PyProof.Rows.envOfC q (defScope st) s.heap.objs.size a cdv)) → L2N.Takes (cxOf (L2N.CX P w) P w K mg base N q (defScope st) a cdv A outer s H E) (fun cls d _ H => E cls d H) →
      MXs (cxOf (L2N.CX P w) P w K mg base N q (defScope st) a cdv A outer s H E) (fun cls d _ H => E cls d H) [] O' (defBody st) G) : FnOk P w K mg base (L2N.CX P w) (k + 1) a fd ps (spEX K n (runMX N' n G)) := by
  subst hN hn
  refine FunD.ok F S (fun vs H Q E h => ?_) (fun cdv A outer s H vs Q E hr h => ?_)
  · obtain ⟨φ, B, Bf, S, Hf, ds, x, S', _, r, hl, _⟩ := h
    exact r.length.symm.trans hl
  · obtain ⟨φ, B, Bf, So, Hf, ds, x, S', hD, r, hl, hm, hk⟩ := h
    refine ⟨_, pssW, ?_⟩
    have hvl : vs.length = ps.length := r.length.symm.trans hl
    unfold L2.start
    rw [hvl]
    unfold runMX envOf at hm
    have M0 : MSR K φ B Bf [] (ds.map some ++ List.replicate (N.length - ps.length) none) So (vs.map some ++ List.replicate (N.length - ps.length) none) Hf H :=
      hD.msr (by simp [r.length]) (fun i d e _ => r.val _ i d e) (fun i d _ m => absurd m (by simp)) (fun i j _ _ _ _ _ m => absurd m (by simp))
    split at hm
    · rename_i y ρ1 S1 h'
      cases hm
      exact hb cdv A outer s H E hr (L2N.takes_of rfl rfl rfl rfl) φ B Bf _ So _ Hf H _ _ _ _ M0 h' fun φ' σ' dd ws Hf' H' e' s' M' e1 e2 r2 => hk φ' dd ws Hf' H' e' s' M'.done e1 e2 r2
    · cases hm
theorem calMEX_of {N' n : Nat} (Dd : FnAt K m q st [] kws (He.fAd K (c, some m))) (hc : Cls K (He.ga K c)) (hm : Meth K (He.ga K c) m (He.ma K (He.ga K c) m)) (S : FnScope N ps (defScope st)) (hN : N' = N.length) (hn : n = ps.length)
    (hbind : ∀ (kV doc pm : Value) (an : Option Addr) (cdv ct : Value) (us : List Value), us.length = ps.length → bindArgs (PySem.W.fnOf m q (defArgs st) (defBody st) (defScope st) .none kV doc pm an cdv ct) ⟨us, []⟩ = pure (ps.zip us))
    (O' : List Nat)
    (hb : ∀ (cdv : Value) (A : Around) (outer : List PySem.Env) (s : Shared) (H : Hp) (E : XK), Room k (A.deeper (PyProof.Rows.envOfC q (defScope st) s.heap.objs.size (He.fAd K (c, some m)) cdv)) → L2N.Takes (cxOf (L2N.CX P w) P w K mg base N q (defScope st) (He.fAd K (c, some m)) cdv A outer s H E) (fun cls d _ H => E cls d H) →
      MXs (cxOf (L2N.CX P w) P w K mg base N q (defScope st) (He.fAd K (c, some m)) cdv A outer s H E) (fun cls d _ H => E cls d H) [] O' (defBody st) G) : CalMEX P w K mg base (k + 1) c m n (runMX N' n G) := by
  obtain ⟨fd, F⟩ := Dd
  exact ⟨_, fd, ps, fnOk_mx F S hN hn O' hb, hc, hm, FunD.bindsN F hbind⟩
end
section
variable {X : Cx} [WW X.w] {W : WX} {CX : CXT} {O : List Nat} {e o : Expr} {es : List Expr} {c m : Str} {pos apos : Pos} {C f : Addr} {fd : FuncData} {ps : List Str} {sp : Sp} {k j n : Nat} {ta : TE} {t : TA} {Fo : Env → Option D} {A1 : Env → List Ob → Option (List D × List Ob)} {mir : List D → List Ob → Option (XM × List Ob)}
def xmMe (c m : Str) (n : Nat) (mir : List D → List Ob → Option (XM × List Ob)) (Fo : Env → Option D) (A1 : Env → List Ob → Option (List D × List Ob)) : Env → List Ob → Option (XM × List Ob) := fun ρ S => match Fo ρ with
  | some (.obj i) => (match S[i]? with
    | some o => if o.k = .ins ∧ o.c = c ∧ o.fs.contains m = false then (match A1 ρ S with
      | some (ds, S1) => if ds.length + 1 = n then mir (.obj i :: ds) S1 else none
      | none => none) else none
    | none => none)
  | _ => none
end
end FL
namespace FL
variable [HW]
open PySem PySem.Spec L2 PyProof.Rows

/-! ### an except suite, the error with several fields -/
structure HCm (X : Cx) (i : Nat) (x : XM) (a : Addr) (oe : Obj) (dd : Addr) (φ : Nat → Option Addr) (Hf : Hp) (σ : L2.St) (vs : List V) : Prop where
  z : L2N.Zn (.ref (He.ga X.K x.c)) (some dd) oe
  f : ∃ vs, oe.data = .fields vs
  s : σ[i]? = some (some (.ref a))
  h : Hf dd = some (.xd (x.fs.zip vs))
  l : x.fs.length = vs.length
  r : RpAll X.K φ Hf x.ds vs
theorem HCm.gr {X : Cx} [WW X.w] {i : Nat} {x : XM} {a dd : Addr} {oe : Obj} {φ : Nat → Option Addr} {Hf Hf' : Hp} {σ : L2.St} {vs : List V} (h : HCm X i x a oe dd φ Hf σ vs) (g : Same Hf Hf') : HCm X i x a oe dd φ Hf' σ vs := ⟨h.z, h.f, h.s, g _ _ h.h, h.l, h.r.mono g⟩
def FEhm (X : Cx) (i : Nat) (x : XM) (O : List Nat) (e : Expr) (F : Env → Option D) : Prop :=
  ∀ (a : Addr) (oe : Obj) (pn : List (Addr × Obj)) (dd : Addr) (φ : Nat → Option Addr) (Hf0 H0 : Hp) (ρ : Env) (σ : L2.St) (Hf H : Hp) (v : List V) (d : D) (Q : VK), HCm X i x a oe dd φ Hf σ v → SR X.K φ Hf0 H0 O ρ σ Hf H → F ρ = some d → (∀ v Hf' H', Gr Hf H Hf' H' → Rp X.K φ Hf' d v → Q v H') → wE (X.suite a ((a, oe) :: pn)) e σ H Q
def FThm (X : Cx) (i : Nat) (x : XM) (O : List Nat) (e : Expr) (T : Env → Option Bool) : Prop :=
  ∀ (a : Addr) (oe : Obj) (pn : List (Addr × Obj)) (dd : Addr) (φ : Nat → Option Addr) (Hf0 H0 : Hp) (ρ : Env) (σ : L2.St) (Hf H : Hp) (v : List V) (b : Bool) (Q : Bool → Hp → Prop), HCm X i x a oe dd φ Hf σ v → SR X.K φ Hf0 H0 O ρ σ Hf H → T ρ = some b → (∀ Hf' H', Gr Hf H Hf' H' → Q b H') → wT (X.suite a ((a, oe) :: pn)) e σ H Q
def FAhm (X : Cx) (i : Nat) (x : XM) (O : List Nat) (es : List Expr) (F : Env → Option (List D)) : Prop :=
  ∀ (a : Addr) (oe : Obj) (pn : List (Addr × Obj)) (dd : Addr) (φ : Nat → Option Addr) (Hf0 H0 : Hp) (ρ : Env) (σ : L2.St) (Hf H : Hp) (v : List V) (ds : List D) (Q : List V → Hp → Prop), HCm X i x a oe dd φ Hf σ v → SR X.K φ Hf0 H0 O ρ σ Hf H → F ρ = some ds → (∀ vs Hf' H', Gr Hf H Hf' H' → RpAll X.K φ Hf' ds vs → Q vs H') → wA (X.suite a ((a, oe) :: pn)) es σ H Q
def FShsm (X : Cx) (i : Nat) (x : XM) (O : List Nat) (sts : List Stmt) (G : Env → Option D) : Prop :=
  ∀ (a : Addr) (oe : Obj) (pn : List (Addr × Obj)) (dd : Addr) (φ : Nat → Option Addr) (Hf0 H0 : Hp) (ρ : Env) (σ : L2.St) (Hf H : Hp) (v : List V) (d : D) (Dn : Ends), HCm X i x a oe dd φ Hf σ v → SR X.K φ Hf0 H0 O ρ σ Hf H → G ρ = some d → RtK X.K φ Hf0 H0 false d Dn.rt → wSs (X.suite a ((a, oe) :: pn)) sts Dn σ H
section
variable {X : Cx} [WW X.w] {i : Nat} {x : XM} {O : List Nat} {e a b : Expr} {es : List Expr} {pos : Pos} {F : Env → Option D} {Fs : Env → Option (List D)}
theorem feh_ofm (h : ∀ (a : Addr) (oe : Obj) (pn : List (Addr × Obj)), FE (X.suite a ((a, oe) :: pn)) O e F) : FEhm X i x O e F := fun a oe pn dd φ Hf0 H0 ρ σ Hf H v d Q _ S hF k => h a oe pn φ Hf0 H0 ρ σ Hf H d Q S hF k
theorem rp_lookup {K : PySem.W.Frag} {φ : Nat → Option Addr} {H : Hp} {f : Str} {d : D} : ∀ {fs : List Str} {ds : List D} {vs : List V}, RpAll K φ H ds vs → (fs.zip ds).lookup f = some d → ∃ v, (fs.zip vs).lookup f = some v ∧ Rp K φ H d v
  | [], _, _, _, h => by simp at h
  | g :: fs, _, _, .nil, h => by simp at h
  | g :: fs, _, _, .cons (d := d1) (v := v1) (ds := ds) (vs := vs) r t, h => by
    show ∃ v, ((g, v1) :: fs.zip vs).lookup f = some v ∧ _
    have h : ((g, d1) :: fs.zip ds).lookup f = some d := h
    rw [List.lookup_cons] at h ⊢
    cases e : f == g with
    | true => rw [e] at h; cases h; exact ⟨_, rfl, r⟩
    | false => rw [e] at h; exact rp_lookup t h
theorem feh_fldm {n f : Str} {p : Pos} (hN : X.N[i]? = some n) (hv : Vis X.env.scope n) (T : XfC X.K (He.ga X.K x.c)) (hno : PySem.W.findIn X.K (.ref (He.ga X.K x.c)) f = some none)
    (hb : attributeBase (.Name n p) f X.env (eval (.Name n p) X.env) = eval (.Name n p) X.env := by rfl) (hd : (n == ("__debug__" : Str)) = false := by decide +kernel) (hcd : (n == ("__classdict__" : Str)) = false := by decide +kernel) :
    FEhm X i x O (.Attribute (.Name n p) f pos) (fun _ => (x.fs.zip x.ds).lookup f) := fun a oe pn dd φ Hf0 H0 ρ σ Hf H v d Q hc S hF k => by
  obtain ⟨w, hw, r⟩ := rp_lookup hc.r hF
  refine toE (pe_xf T hno hc.z.zc hc.f (pe_var hN hv hd hcd) hb) ?_
  exact ⟨.ref a, hc.s, rfl, rfl, dd, x.fs.zip v, w, rfl, S.sub _ _ hc.h, hw, k w Hf H (.refl S.sub) r⟩
theorem feh_isim {n y isi : Str} {p pn' py : Pos} {c : V} {cv : Value} {r : Bool} (hN : X.N[i]? = some n) (hv : Vis X.env.scope n) (C : ExcC X.K (He.ga X.K x.c)) (hg : Gl X isi) (hm : X.mg isi = none) (hb : bootBuiltins isi = some (.builtin "isinstance")) (hy : ∀ (a : Addr) (oe : Obj) (pn : List (Addr × Obj)), PE (X.suite a ((a, oe) :: pn)) (.Name y py) (tC c)) (hcv : ∀ u, RelV c u → u = cv)
    (hk : PySem.W.kitOne X.K (.ref (He.ga X.K x.c)) cv = some r) (hn : isi ≠ "__name__" := by decide +kernel) (hdb : (isi == ("__debug__" : Str)) = false := by decide +kernel) (hd : (n == ("__debug__" : Str)) = false := by decide +kernel) (hcd : (n == ("__classdict__" : Str)) = false := by decide +kernel)
    (hs : starEach [.Name n pn', .Name y py] X.env = (false, eval (.Name n pn') X.env) :: starEach [.Name y py] X.env := by rfl) (hs2 : starEach [.Name y py] X.env = (false, eval (.Name y py) X.env) :: starEach [] X.env := by rfl) (hpl : (backTo pos (starEach [.Name y py] X.env)).any (·.1) = false := by rfl) :
    FEhm X i x O (.Call (.Name isi p) [.Name n pn', .Name y py] [] pos) (fun _ => some (.bl r)) := fun a oe pn dd φ Hf0 H0 ρ σ Hf H v d Q hc S hF k => by
  cases hF
  refine toE (pe_callB (call_isX C hc.z.zc hc.f) hg hm hb (pa_cons (pe_var hN hv hd hcd) (pa_cons (hy a oe pn) pa_nil hs2) hs) hn hdb hs hpl) ?_
  exact ⟨.ref a, hc.s, c, cv, r, x.fs.zip v, rfl, hcv, hk, S.sub _ _ hc.h, k _ Hf H (.refl S.sub) (.bl r)⟩
theorem fth_valm (h : FEhm X i x O e F) (he : ∀ whole, isTrue e X.env whole = (do let v ← whole; standAt e.pos; holding [v] (truthy v)) := by intro _; rfl) : FThm X i x O e (tB blD F) := fun a oe pn dd φ Hf0 H0 ρ σ Hf H v b Q hc S hF k => by
  obtain ⟨d, hd, hb⟩ := tB_some hF
  refine toT (pt_truth (X := X.suite a ((a, oe) :: pn)) peW he) ?_
  refine h a oe pn dd φ Hf0 H0 ρ σ Hf H v d _ hc S hd fun v Hf1 H1 g1 r1 => ⟨b, ?_, k Hf1 H1 g1⟩
  cases r1 <;> first | (cases hb; rfl) | cases hb
theorem fth_notm {T : Env → Option Bool} (h : FThm X i x O e T) : FThm X i x O (.UnaryOp .Not e pos) (tNot T) := fun a oe pn dd φ Hf0 H0 ρ σ Hf H v c Q hc S hF k => by
  unfold tNot at hF
  split at hF
  · rename_i b hb
    cases hF
    exact toT (pt_not ptW) (h a oe pn dd φ Hf0 H0 ρ σ Hf H v b _ hc S hb fun Hf1 H1 g1 => k Hf1 H1 g1)
  · cases hF
def FWhm (X : Cx) (i : Nat) (x : XM) (O : List Nat) (e : Expr) (F : Env → Option Bool) : Prop :=
  ∀ (a : Addr) (oe : Obj) (pn : List (Addr × Obj)), ∃ t : TT, PW (X.suite a ((a, oe) :: pn)) e t ∧ ∀ (dd : Addr) (φ : Nat → Option Addr) (Hf0 H0 : Hp) (ρ : Env) (σ : L2.St) (Hf H : Hp) (v : List V) (b : Bool) (Q : Bool → Hp → Prop), HCm X i x a oe dd φ Hf σ v → SR X.K φ Hf0 H0 O ρ σ Hf H → F ρ = some b → (∀ Hf' H', Gr Hf H Hf' H' → Q b H') → t σ H Q
theorem fth_wm {T : Env → Option Bool} (h : FWhm X i x O e T) : FThm X i x O e T := fun a oe pn dd φ Hf0 H0 ρ σ Hf H v b Q hc S hF k => by
  obtain ⟨t, p, h⟩ := h a oe pn
  exact toT p.pt (h dd φ Hf0 H0 ρ σ Hf H v b Q hc S hF k)
theorem fwh_or1m {T : Env → Option Bool} (h : FThm X i x O e T) : FWhm X i x O (.BoolOp .Or [e] pos) T := fun a oe pn => ⟨_, pw_or1 ptW, h a oe pn⟩
theorem fwh_orm {rest : List Expr} {T U : Env → Option Bool} (h : FThm X i x O a T) (h2 : FWhm X i x O (.BoolOp .Or (b :: rest) pos) U) : FWhm X i x O (.BoolOp .Or (a :: b :: rest) pos) (tOr T U) := fun a oe pn => by
  obtain ⟨t, p, h2⟩ := h2 a oe pn
  refine ⟨_, pw_or ptW p, fun dd φ Hf0 H0 ρ σ Hf H v c Q hc S hF k => ?_⟩
  unfold tOr at hF
  split at hF
  · rename_i hb
    cases hF
    exact h a oe pn dd φ Hf0 H0 ρ σ Hf H v true _ hc S hb fun Hf1 H1 g1 => iteT (k Hf1 H1 g1)
  · rename_i hb
    refine h a oe pn dd φ Hf0 H0 ρ σ Hf H v false _ hc S hb fun Hf1 H1 g1 => ?_
    exact iteF (h2 dd φ Hf0 H0 ρ σ Hf1 H1 v c Q (hc.gr g1.f) (S.gr g1) hF fun Hf2 H2 g2 => k Hf2 H2 (g1.trans g2))
  · cases hF
theorem fah_nilm : FAhm X i x O [] aNil := fun a oe pn dd φ Hf0 H0 ρ σ Hf H v ds Q hc S hF k => by cases hF; exact toA pa_nil (k [] Hf H (.refl S.sub) .nil)
theorem fah_consm (h : FEhm X i x O e F) (t : FAhm X i x O es Fs) (hs : starEach (e :: es) X.env = (false, eval e X.env) :: starEach es X.env := by rfl) : FAhm X i x O (e :: es) (aCons F Fs) := fun a oe pn dd φ Hf0 H0 ρ σ Hf H v ds Q hc S hF k => by
  unfold aCons at hF
  split at hF
  · rename_i d h1
    split at hF
    · rename_i ds' h2
      cases hF
      refine toA (pa_cons (X := X.suite a ((a, oe) :: pn)) (peW (e := e)) (paW (es := es)) hs) ?_
      refine h a oe pn dd φ Hf0 H0 ρ σ Hf H v d _ hc S h1 fun v1 Hf1 H1 g1 r1 => ?_
      refine t a oe pn dd φ Hf0 H0 ρ σ Hf1 H1 v ds' _ (hc.gr g1.f) (S.gr g1) h2 fun vs Hf2 H2 g2 r2 => ?_
      exact k (v1 :: vs) Hf2 H2 (g1.trans g2) (.cons (r1.mono g2.f) r2)
    · cases hF
  · cases hF
theorem fshs_retm {sts : List Stmt} (h : FEhm X i x O e F) : FShsm X i x O (.Return (some e) pos :: sts) F := fun a oe pn dd φ Hf0 H0 ρ σ Hf H v d Dn hc S hF P => by
  refine toSs (pss_cons psW pssW) (toS (ps_ret peW) ?_)
  exact h a oe pn dd φ Hf0 H0 ρ σ Hf H v d _ hc S hF fun v1 Hf1 H1 g1 r1 => P v1 Hf1 H1 (S.from0.trans g1) r1
theorem fshs_ifm {c : Expr} {T : Env → Option Bool} {s1 sts : List Stmt} {G : Env → Option D} (h : FThm X i x O c T) (h1 : FShsm X i x O s1 F) (h2 : FShsm X i x O sts G) : FShsm X i x O (.If c s1 [] pos :: sts) (hIf T F G) := fun a oe pn dd φ Hf0 H0 ρ σ Hf H v d Dn hc S hF P => by
  refine toSs (pss_cons psW pssW) (toS (ps_if ptW pssW pss_nil) ?_)
  unfold hIf at hF
  split at hF
  · rename_i hb
    exact h a oe pn dd φ Hf0 H0 ρ σ Hf H v true _ hc S hb fun Hf1 H1 g1 => iteT (h1 a oe pn dd φ Hf0 H0 ρ σ Hf1 H1 v d _ (hc.gr g1.f) (S.gr g1) hF P)
  · rename_i hb
    exact h a oe pn dd φ Hf0 H0 ρ σ Hf H v false _ hc S hb fun Hf1 H1 g1 => iteF (h2 a oe pn dd φ Hf0 H0 ρ σ Hf1 H1 v d _ (hc.gr g1.f) (S.gr g1) hF P)
  · cases hF
end
/-! ### try, over objects that change -/
def mTryX (i : Nat) (c : Str) (fs : List Str) (G : Env → List Ob → Option MOut) (GX : Env → List Ob → Option (XM × Env × List Ob)) (HX : List D → Env → Option D) : Env → List Ob → Option MOut := fun ρ S => match G ρ S with
  | some o => some o
  | none => match GX ρ S with
    | some (x, ρ', S') => if x.c = c ∧ x.fs = fs ∧ i < ρ'.length then (match HX x.ds (ρ'.set i none) with | some d => some (.rt d S') | none => none) else none
    | none => none
theorem ms_tryX {X : Cx} [WW X.w] {O O' O1 : List Nat} {body suite : List Stmt} {b₀ : Stmt} {np pos pos' : Pos} {x n c : Str} {fs : List Str} {i : Nat} {cv : Value} {G : Env → List Ob → Option MOut} {GX : Env → List Ob → Option (XM × Env × List Ob)} {HX : List D → Env → Option D} (hs : X.stack = X.env :: X.outer) (hf : X.env.frame = some X.env.locals) (hN : X.N.Nodup) (hi : X.N[i]? = some n) (hln : X.env.kindOf n = some .local) (hc : Names X x cv)
    (hex : PySem.W.exmOne X.K (.ref (He.ga X.K c)) cv = some true) (hO : O1.contains i = false) (hb : MSs X.nox O O' body G)
    (hbx : ∀ (W : WX) (pn : List (Addr × Obj)) (xe : Value → Shared → Prop), L2N.Takes (X.tr pn xe) W → MXs (X.tr pn xe) W O O1 body GX)
    (hh : ∀ ds : List D, FShsm X i ⟨c, fs, ds⟩ O1 (b₀ :: suite) (HX ds)) :
    MS X O O' (.Try body [.ExceptHandler (some (.Name x np)) (some n) (b₀ :: suite) pos'] [] [] pos) (mTryX i c fs G GX HX) := fun φ B Bf ρ S σ Hf H out Dn M hF P => by
  unfold mTryX at hF
  split at hF
  · rename_i o ho
    cases hF
    exact toS (ps_try_thru0 pssW) (hb φ B Bf ρ S σ Hf H _ Dn M ho P)
  · split at hF
    case h_2 => cases hF
    rename_i xc ρ' S' hx
    split at hF
    case isFalse => cases hF
    rename_i hxc
    split at hF
    case h_2 => cases hF
    rename_i d hd
    cases hF
    obtain ⟨xcl, xf, xd⟩ := xc
    obtain ⟨rfl, rfl, hlen0⟩ := hxc
    refine toS (L2N.ps_try_as (tb := fun W => fun D σ H => ∀ (pn : List (Addr × Obj)) (xe : Value → Shared → Prop), L2N.Takes (X.tr pn xe) W → wSs (X.tr pn xe) body D σ H)
      (ts := fun a cls d => fun D σ H => ∀ (oe : Obj) (pn : List (Addr × Obj)), L2N.Zn cls d oe → (∃ vs, oe.data = .fields vs) → wSs (X.suite a ((a, oe) :: pn)) (b₀ :: suite) D σ H)
      hs hf hN hi hln hc (show L2N.Takes X (fun _ _ _ _ => False) from fun _ _ ⟨_, _, _, _, _, _, _, _, _, _, _, _, _, _, _, _, w⟩ => w.elim) (fun W pn xe tk _ => ⟨fun pins s σ H D I h => (h pn xe tk).h pins s I⟩) (fun a oe cls d pn hz hfs => ⟨fun pins s σ H D I h => (h oe pn hz hfs).h pins s I⟩)) ?_
    intro pn xe tk
    refine hbx _ pn xe tk φ B Bf ρ S σ Hf H _ _ _ Dn M hx fun φ' σ' dd vs Hf' H' e' s' M' hdd hl rv => ?_
    refine ⟨true, hex, fun _ a ha oe pn2 hz hfs => ?_, fun z => nomatch z⟩
    have hlen : i < σ'.length := by rw [← M'.sr.len]; exact hlen0
    refine hh xd a oe pn2 dd φ' _ _ (ρ'.set i none) (σ'.set i (some (.ref a))) Hf' H' vs d _ ⟨hz, hfs, by rw [List.getElem?_set]; simp [hlen], hdd, hl, rv⟩ (SR.setNone M'.sr i hO _) hd fun v Hf2 H2 g r => ?_
    have S1 : SR X.K φ' Hf' (bas φ' S' B Hf' H') [] ([] : Env) ([] : L2.St) Hf2 H2 := ⟨rfl, g.s, g.f, g.h, g.n, fun i d e n => (by simp at e), fun i d e m => (by simp at m), fun i j d e a h => (by simp at h)⟩
    exact P φ' v Hf2 H2 e' (s'.trans g.f) (M'.step S1).done r
end FL
namespace FL
variable [HW]
open PySem PySem.Spec L2 PyProof.Rows

/-! ### obj[k] = v, by the object's own __setitem__ -/
theorem setItem_own {A : Around} {E : Value → Shared → Prop} {prog : Program} {w : World} {s : Shared} {K : PySem.W.Frag} {x C f : Addr} {ox : Obj} {od : Option Obj} {i v : Value} {Q : Unit → Shared → Prop} (X : K.In s.heap) (I : PySem.W.InstAt s.heap x ox C od) (hq : PySem.W.noSeq K C = true) (hs : PySem.W.findIn K (.ref C) "__setitem__" = some (some (.ref f))) (hf : PySem.W.isFn K (.ref f) = true)
    (h : wpAny (model prog w) A (call (.ref f) [.ref x, i, v]) (fun _ s' => Q () s') E s) : wpAny (model prog w) A (setItem (.ref x) i v) Q E s := by
  unfold setItem sequenceKey
  exact wpAny_holding (wpAny_bind (wpAny_bind (I.type.here (wpAny_bind ((PySem.W.anyM_none X hq).here (by
    rw [if_pos (show (!false) = true from rfl)]
    exact wpAny_pure (wpAny_bind (PySem.W.special_fn X I hs (beq_iff_eq.mp hf) (wpAny_mono h (fun _ _ z => wpAny_pure z) fun _ _ z => z)))))))))
section
variable {X : Cx} [WW X.w] {W : WX} {CX : CXT} {O : List Nat} {o i value : Expr} {c : Str} {pos pos' : Pos} {C f : Addr} {fd : FuncData} {ps : List Str} {sp : Sp} {k j : Nat} {ta ti tv : TE} {Fo Fi Fv : Env → Option D}
theorem ps_setOwn {E : L2.St → XK} (hv : PE X value tv) (ho : PE X o ta) (hi : PE X i ti) (hq : PySem.W.noSeq X.K C = true) (hm : Meth X.K C "__setitem__" f) (F : FnOk X.prog X.w X.K X.mg X.base CX k f fd ps sp) (hr : Room k X.A) (hb : Binds X.K fd ps []) (hx : ∀ σ, PassesAt CX X σ (E σ))
    (hs : swapsWith value (some (.Subscript o i pos')) pos.line X.env = pure false) :
    PS X (.Assign [.Subscript o i pos'] value pos) (fun D σ H => tv σ H fun v H1 => ta σ H1 fun y H2 => ti σ H2 fun z H3 => ∃ a dx fs, y = .ref a ∧ H3 a = some (.ins C dx fs) ∧ sp [.ref a, z, v] H3 (fun _ H4 => D.nx σ H4) (E σ)) := by
  refine ⟨fun pins s σ H D I h => ?_⟩
  refine wpAny_Assign_Subscript (thn (hv.run pins s σ H _ I h) fun r s1 ⟨v, H1, I1, rv, q1⟩ => thn (ho.run pins s1 σ H1 _ I1 q1) fun u s2 ⟨y, H2, I2, ry, q2⟩ => thn (hi.run pins s2 σ H2 _ I2 q2) fun iv s3 ⟨z, H3, I3, rz, a, dx, fs, ey, ea, q⟩ => ?_) hs
  subst ey
  obtain rfl : u = Value.ref a := ry
  obtain ⟨ox, od, J⟩ := insAt I3 ea
  refine setItem_own I3.kIn J hq hm.at_ hm.fn (thn (run_fnS (us := [.ref a, iv, r]) (vs := [.ref a, z, v]) (Q := fun _ H4 => D.nx σ H4) F hr hb (hx σ) I3 (.cons rfl (.cons rz (.cons rv .nil))) q) fun _ s4 ⟨v4, H4, I4, r4, q4⟩ => ?_)
  exact ⟨σ, H4, I4, q4⟩
def mSetOwn (c : Str) (mir : List D → List Ob → Option (D × List Ob)) (Fo Fi Fv : Env → Option D) : Env → List Ob → Option MOut := fun ρ S => match Fv ρ with
  | some v => (match Fo ρ with
    | some (.obj n) => (match Fi ρ with
      | some z => (match S[n]? with
        | some ob => if ob.k = .ins ∧ ob.c = c then (match mir [.obj n, z, v] S with | some (_, S') => some (.nx ρ S') | none => none) else none
        | none => none)
      | none => none)
    | _ => none)
  | none => none
def xmSetOwn (c : Str) (mir : List D → List Ob → Option (XM × List Ob)) (Fo Fi Fv : Env → Option D) : Env → List Ob → Option (XM × Env × List Ob) := fun ρ S => match Fv ρ with
  | some v => (match Fo ρ with
    | some (.obj n) => (match Fi ρ with
      | some z => (match S[n]? with
        | some ob => if ob.k = .ins ∧ ob.c = c then (match mir [.obj n, z, v] S with | some (x, S') => some (x, ρ, S') | none => none) else none
        | none => none)
      | none => none)
    | _ => none)
  | none => none
theorem ms_setOwn {mir : List D → List Ob → Option (D × List Ob)} (cm : CalME X.prog X.w X.K X.mg X.base j c "__setitem__" 3 mir) (hq : PySem.W.noSeq X.K (He.ga X.K c) = true) (hr : Room k X.A) (hk : j ≤ k) (hv : FE X O value Fv) (ho : FE X O o Fo) (hi : FE X O i Fi)
    (hs : swapsWith value (some (.Subscript o i pos')) pos.line X.env = pure false := by rfl) : MS X O O (.Assign [.Subscript o i pos'] value pos) (mSetOwn c mir Fo Fi Fv) := fun φ B Bf ρ S σ Hf H out Dn M hF P => by
  obtain ⟨f, fd, ps, Fn, hc, hm, hb⟩ := cm.ok
  unfold mSetOwn at hF
  split at hF
  case h_2 => cases hF
  rename_i dv e1
  split at hF
  case h_2 => cases hF
  rename_i n e2
  split at hF
  case h_2 => cases hF
  rename_i dz e3
  split at hF
  case h_2 => cases hF
  rename_i ob e4
  split at hF
  case isFalse => cases hF
  rename_i h3
  obtain ⟨h0, rfl⟩ := h3
  split at hF
  case h_2 => cases hF
  rename_i dr S' hmr
  cases hF
  refine toS (ps_setOwn (E := fun _ _ _ _ => False) peW peW peW hq hm Fn (hr.mono hk) hb (fun σ pins H s e s' I z => pass0 pins σ H s e s' I z) hs) ?_
  refine hv φ _ _ ρ σ Hf H _ _ M.sr e1 fun v Hf1 H1 g1 r1 => ?_
  have M1 := M.gr g1
  refine ho φ _ _ ρ σ Hf1 H1 _ _ M1.sr e2 fun y Hf2 H2 g2 r2 => ?_
  have M2 := M1.gr g2
  refine hi φ _ _ ρ σ Hf2 H2 _ _ M2.sr e3 fun z Hf3 H3 g3 r3 => ?_
  have M3 := M2.gr g3
  cases r2 with
  | obj hi' =>
    obtain ⟨a, q1, q3, q0⟩ := M3.cl.at_ _ _ e4
    rw [hi'] at q1
    cases q1
    obtain ⟨dx, vs0, q2, q4, q5⟩ := q0.ins h0
    refine ⟨_, _, _, rfl, q2, ?_⟩
    refine M3.into (ds := [.obj n, dz, dv]) (.cons (.obj hi') (.cons r3 (.cons ((r1.mono g2.f).mono g3.f) .nil))) rfl hmr fun φ3 v3 Hf4 H4 e4' s4 M4 r4 => ?_
    exact P φ3 σ Hf4 H4 e4' (((g1.f.trans g2.f).trans g3.f).trans s4) M4
theorem mx_setOwn {mir : List D → List Ob → Option (XM × List Ob)} (cm : CalMEX X.prog X.w X.K X.mg X.base j c "__setitem__" 3 mir) (hq : PySem.W.noSeq X.K (He.ga X.K c) = true) (hr : Room k X.A) (hk : j ≤ k) (tk : L2N.Takes X W) (hv : FE X O value Fv) (ho : FE X O o Fo) (hi : FE X O i Fi)
    (hs : swapsWith value (some (.Subscript o i pos')) pos.line X.env = pure false := by rfl) : MX X W O O (.Assign [.Subscript o i pos'] value pos) (xmSetOwn c mir Fo Fi Fv) := fun φ B Bf ρ S σ Hf H x ρ' S1 Dn M hF P => by
  obtain ⟨f, fd, ps, Fn, hc, hm, hb⟩ := cm.ok
  unfold xmSetOwn at hF
  split at hF
  case h_2 => cases hF
  rename_i dv e1
  split at hF
  case h_2 => cases hF
  rename_i n e2
  split at hF
  case h_2 => cases hF
  rename_i dz e3
  split at hF
  case h_2 => cases hF
  rename_i ob e4
  split at hF
  case isFalse => cases hF
  rename_i h3
  obtain ⟨h0, rfl⟩ := h3
  split at hF
  case h_2 => cases hF
  rename_i x' S' hmr
  cases hF
  refine toS (ps_setOwn peW peW peW hq hm Fn (hr.mono hk) hb (fun σ => L2N.passAt tk σ) hs) ?_
  refine hv φ _ _ ρ σ Hf H _ _ M.sr e1 fun v Hf1 H1 g1 r1 => ?_
  have M1 := M.gr g1
  refine ho φ _ _ ρ σ Hf1 H1 _ _ M1.sr e2 fun y Hf2 H2 g2 r2 => ?_
  have M2 := M1.gr g2
  refine hi φ _ _ ρ σ Hf2 H2 _ _ M2.sr e3 fun z Hf3 H3 g3 r3 => ?_
  have M3 := M2.gr g3
  cases r2 with
  | obj hi' =>
    obtain ⟨a, q1, q3, q0⟩ := M3.cl.at_ _ _ e4
    rw [hi'] at q1
    cases q1
    obtain ⟨dx, vs0, q2, q4, q5⟩ := q0.ins h0
    refine ⟨_, _, _, rfl, q2, ?_⟩
    refine ⟨φ, FL.hid φ S H3, Hf3, S, Hf3, [.obj n, dz, dv], x, S1, M3.hid, .cons (.obj hi') (.cons r3 (.cons ((r1.mono g2.f).mono g3.f) .nil)), rfl, hmr, fun φ3 dd ws Hf4 H4 e4' s4 D4 z1 z2 z3 => ?_⟩
    exact P φ3 σ dd ws Hf4 H4 e4' (((g1.f.trans g2.f).trans g3.f).trans s4) (M3.called e4' s4 D4) z1 z2 z3
end
end FL
namespace FL
variable [HW]
open PySem PySem.Spec L2 PyProof.Rows

/-! ### the error that is handled, handed on to a def -/
structure PinE (fr : List PySem.Env) (H : Hp) (z : Shared) (a : Addr) (oe : Obj) : Prop where
  g : z.heap.get? a = some oe
  n : H a = none
  f : a ∉ frs fr
  c : ∀ v, oe.data ≠ .cell v
structure FnHotP (P : Program) (w : World) (K : PySem.W.Frag) (mg : Str → Option Value) (base : Heap) (k : Nat) (f : Addr) (fd : FuncData) (ps : List Str) (sp : Addr → Obj → Sp) : Prop where
  lg : ∀ a oe vs H Q E, sp a oe vs H Q E → vs.length = ps.length
  go : ∀ (B : Around) (fr : List PySem.Env) (z : Shared) (H : Hp) (ar : Args) (us : List Value) (vs : List V) (Q : VK) (E : XK) (a : Addr) (oe : Obj), B.handled = some (.ref a) → PinE fr H z a oe → Room k (Cool B) → Env0 P w K mg base B fr z H → BindsTo z fd ar (ps.zip us) → Vals vs us → sp a oe vs H Q E → codeAny (model P w) B (.call (.ref f) ar) (CR CX0 fr P w H z Q E) z
abbrev cxHotP (P : Program) (w : World) (K : PySem.W.Frag) (mg : Str → Option Value) (base : Heap) (N : List Str) (q : Str) (sc : Scope) (f : Addr) (cd : Value) (B : Around) (fr : List PySem.Env) (z : Shared) (H : Hp) (E : XK) (a : Addr) (oe : Obj) : Cx :=
  { cxHot P w K mg base N q sc f cd B fr z H E with pn := [(a, oe)] }
theorem inv_hotP {P : Program} {w : World} [WW w] {K : PySem.W.Frag} {mg : Str → Option Value} {base : Heap} {N ps : List Str} {q : Str} {sc : Scope} {f : Addr} {cd : Value} {B : Around} {fr : List PySem.Env} {z z1 : Shared} {H : Hp} {E : XK} {us : List Value} {vs : List V} {a : Addr} {oe : Obj}
    (S : FnScope N ps sc) (e0 : Env0 P w K mg base B fr z H) (pe : PinE fr H z a oe) (hl : vs.length = ps.length) (r : Vals vs us)
    (x : InCallC z z.heap.objs.size (bindL (envOfC q sc z.heap.objs.size f cd).kindOf (ps.zip us) fun _ => none) (cellsFrom (z.heap.objs.size + 1) sc.names []) (bindC (envOfC q sc z.heap.objs.size f cd).kindOf (ps.zip us) fun _ => none) z1) :
    Inv (cxHotP P w K mg base N q sc f cd B fr z H E a oe) [] (start N vs) H z1 := by
  have I := inv_hot (E := E) S e0 hl r x
  have o := I.ok
  refine ⟨⟨o.mod, o.kind, o.glob, o.blt, o.above, o.inj, o.has, o.cab, o.hd, o.frames, o.stk, o.exf, o.bs, o.bsz, o.noex, o.exfs, o.funs, o.frf⟩, I.os, I.bare, I.base, I.loc, I.cell, I.free, I.freeC, fun p hp => ?_, I.hok, I.len⟩
  have hp : p ∈ [(a, oe)] ++ ([] : List (Addr × Obj)) := hp
  simp only [List.append_nil, List.mem_singleton] at hp
  subst hp
  exact ⟨x.toInCall.keep _ _ pe.g, pe.n, Nat.ne_of_lt (Heap.lt_size pe.g), pe.f, pe.c⟩
theorem fnHotP_of {P : Program} {w : World} [WW w] {K : PySem.W.Frag} {mg : Str → Option Value} {base : Heap} {k : Nat} {f : Addr} {x q : Str} {params : Arguments} {body : List Stmt} {sc : Scope} {dvs : List V} {kws : List (Str × V)} {fd : FuncData} {N ps : List Str} {sp : Addr → Obj → Sp} (F : FunD K x q params body sc dvs kws f fd) (S : FnScope N ps sc)
    (lg : ∀ a oe vs H Q E, sp a oe vs H Q E → vs.length = ps.length)
    (hb : ∀ (cdv : Value) (B : Around) (fr : List PySem.Env) (z : Shared) (H : Hp) (vs : List V) (Q : VK) (E : XK) (a : Addr) (oe : Obj), B.handled = some (.ref a) → Room k (Cool (B.deeper (envOfC q sc z.heap.objs.size f cdv))) → sp a oe vs H Q E → ∃ t, PSs (cxHotP P w K mg base N q sc f cdv B fr z H E a oe) body t ∧ t { nx := fun _ H' => Q .non H', rt := Q } (start N vs) H) :
    FnHotP P w K mg base (k + 1) f fd ps sp := by
  obtain ⟨oc, od, dV, kV, doc, pm, an, cdv, ct, osl, rfl, lk, hcd, _, _⟩ := F.ex
  refine ⟨lg, fun B fr z H ar us vs Q E a oe hB pe hr e0 hbd r hsp => ?_⟩
  have same : ∀ b o, base.get? b = some o → z.heap.get? b = some o := fun b o e => (e0.bs b o e).1
  have KZ := e0.mod.kin.keeps same
  refine codeAny_call_function (show B.depth < recursionLimit from hr.depth) (KZ _ _ lk) rfl S.co S.gen rfl (PySem.W.codeRec_of KZ hcd) (hbd _ _ _ _ (wpAny_newFunctionEnv_cells S.kind (fun ⟨n, v⟩ hy => ?_) fun env he z1 x => ?_))
  · rcases S.par n (List.of_mem_zip hy).1 with g | g
    · exact .inl g
    · exact .inr ⟨g, PySem.W.cellsFrom_some _ _ _ (.inl g)⟩
  · subst he
    refine ⟨(e0.mod.nolimit.keeps same).keeps x.toInCall.keep, codeAny_func ?_⟩
    obtain ⟨t, ht, hq⟩ := hb cdv B fr z H vs Q E a oe hB (Room.deeper (A := Cool B) hr _) hsp
    refine wpAny_mono (ht.run [] z1 (start N vs) H _ (inv_hotP S e0 pe (lg _ _ _ _ _ _ hsp) r x) hq) (fun fl z' hz => ?_) fun e z' hz => hz
    cases fl with
    | ret u => exact let ⟨v, _, H', J, rv, g⟩ := hz; ⟨v, H', J.os, J.bare, J.base, J.hok, rv, g⟩
    | next => exact let ⟨_, H', J, g⟩ := hz; ⟨V.non, H', J.os, J.bare, J.base, J.hok, rfl, g⟩
    | brk => exact let ⟨_, _, _, g⟩ := hz; g.elim
    | cont => exact let ⟨_, _, _, g⟩ := hz; g.elim
def spH (K : PySem.W.Frag) (c : Str) (fs : List Str) (n : Nat) (m : List D → List D → Option D) : Addr → Obj → Sp := fun a oe vs H Q _ =>
  ∃ (φ : Nat → Option Addr) (Hf : Hp) (us ws : List V) (xs ds : List D) (d : D) (dd : Addr), vs = .ref a :: us ∧ Same Hf H ∧ L2N.Zn (.ref (He.ga K c)) (some dd) oe ∧ (∃ vs, oe.data = .fields vs) ∧ Hf dd = some (.xd (fs.zip ws)) ∧ fs.length = ws.length ∧ RpAll K φ Hf xs ws ∧ RpAll K φ Hf ds us ∧ ds.length + 1 = n ∧ m xs ds = some d ∧
    ∀ v Hf' H', Gr Hf H Hf' H' → Rp K φ Hf' d v → Q v H'
structure CalHE (P : Program) (w : World) (K : PySem.W.Frag) (mg : Str → Option Value) (base : Heap) (k : Nat) (x c : Str) (fs : List Str) (n : Nat) (m : List D → List D → Option D) : Prop where
  ok : ∃ (f : Addr) (fd : FuncData) (ps : List Str), FnHotP P w K mg base k f fd ps (spH K c fs n m) ∧ mg x = some (.ref f) ∧ PySem.W.keepIn K (.ref f) = true ∧ Binds K fd ps []
def runHE (N n : Nat) (HX : List D → Env → Option D) : List D → List D → Option D := fun xs ds => HX xs (none :: (ds.map some ++ List.replicate (N - n) none))
theorem suite_of {X : Cx} {a : Addr} {oe : Obj} {sts : List Stmt} {Dn : Ends} {σ : L2.St} {H : Hp} {P : Program} {w : World} {K : PySem.W.Frag} {mg : Str → Option Value} {base : Heap} {N : List Str} {q : Str} {sc : Scope} {f : Addr} {cd : Value} {fr : List PySem.Env} {z : Shared} {H0 : Hp} {E : XK} : ∀ {B : Around}, B.handled = some (.ref a) →
    wSs ((cxOf CX0 P w K mg base N q sc f cd (Cool B) fr z H0 E).suite a [(a, oe)]) sts Dn σ H → wSs (cxHotP P w K mg base N q sc f cd B fr z H0 E a oe).nox sts Dn σ H
  | ⟨h, _, _, _, _⟩, e, h1 => by
    have e : h = some (.ref a) := e
    subst e
    exact h1
theorem calHE_of {P : Program} {w : World} [WW w] {K : PySem.W.Frag} {mg : Str → Option Value} {base : Heap} {k : Nat} {a0 : Addr} {p0 : Str} {ps N : List Str} {x c : Str} {fs : List Str} {st : Stmt} {HX : List D → Env → Option D} {N' n : Nat} (Dd : DefAt K x st a0) (g : mg x = some (.ref a0)) (S : FnScope N (p0 :: ps) (defScope st)) (hN : N' = N.length) (hn : n = ps.length + 1)
    (hbind : ∀ (kV doc pm : Value) (an : Option Addr) (cdv ct : Value) (us : List Value), us.length = (p0 :: ps).length → bindArgs (PySem.W.fnOf x x (defArgs st) (defBody st) (defScope st) .none kV doc pm an cdv ct) ⟨us, []⟩ = pure ((p0 :: ps).zip us))
    (hb : ∀ (cdv : Value) (A : Around) (outer : List PySem.Env) (s : Shared) (H : Hp) (E : XK), Room k (A.deeper (envOfC x (defScope st) s.heap.objs.size a0 cdv)) →
      ∀ xs : List D, FShsm (cxOf CX0 P w K mg base N x (defScope st) a0 cdv A outer s H E) 0 ⟨c, fs, xs⟩ [] (defBody st) (HX xs)) : CalHE P w K mg base (k + 1) x c fs n (runHE N' n HX) := by
  obtain ⟨fd, F⟩ := Dd
  subst hN hn
  refine ⟨a0, fd, p0 :: ps, fnHotP_of F S (fun a oe vs H Q E h => ?_) (fun cdv B fr z H vs Q E a oe hB hr h => ?_), g, F.kp, FunD.bindsN F hbind⟩
  · obtain ⟨φ, Hf, us, ws, xs, ds, d, dd, rfl, _, _, _, _, _, _, r, hl, _⟩ := h
    show us.length + 1 = ps.length + 1
    rw [← r.length]; exact hl
  · obtain ⟨φ, Hf, us, ws, xs, ds, d, dd, rfl, hs, hz, hf, hdd, hfl, rx, r, hl, hm, hk⟩ := h
    have hdl : ds.length = ps.length := Nat.succ.inj hl
    have hNl : (p0 :: ps).length ≤ N.length := by have := congrArg List.length S.pre; rw [List.length_take] at this; omega
    have hvl : us.length = ps.length := by rw [← r.length]; exact hdl
    refine ⟨_, PSs.nox pssW, suite_of (X := cxHotP P w K mg base N x (defScope st) a0 cdv B fr z H E a oe) hB ?_⟩
    have est : L2.start N (.ref a :: us) = some (.ref a) :: (us.map some ++ List.replicate (N.length - (ps.length + 1)) none) := by
      unfold L2.start
      rw [List.map_cons, List.cons_append, List.length_cons, hvl]
    rw [est]
    unfold runHE at hm
    refine hb cdv (Cool B) fr z H E hr xs a oe [] dd φ Hf H (none :: (ds.map some ++ List.replicate (N.length - (ps.length + 1)) none)) _ Hf H ws d _ ⟨hz, hf, rfl, hdd, hfl, rx⟩
      ⟨by simp [r.length], hs, Same.refl _, Same.refl _, fun _ _ _ y => y, fun i d e _ => ?_, fun i d _ m => absurd m (by simp), fun i j _ _ _ _ _ m => absurd m (by simp)⟩ hm hk
    cases i with
    | zero => cases e
    | succ i => exact r.val _ i d e
section
variable {X : Cx} [WW X.w] {O : List Nat} {es : List Expr} {e a b : Expr} {x n : Str} {p p2 pos : Pos} {k j i nn : Nat} {xm : XM} {m : List D → List D → Option D} {F G : Env → Option D} {Fs : Env → Option (List D)}
theorem pe_callP {a : Addr} {oe : Obj} {pn : List (Addr × Obj)} {f : Addr} {fd : FuncData} {ps : List Str} {sp : Addr → Obj → Sp} {t : TA} (F : FnHotP X.prog X.w X.K X.mg X.base k f fd ps sp) (hr : Room k X.A) (hg : Gl X x) (hm : X.mg x = some (.ref f)) (hk : PySem.W.keepIn X.K (.ref f) = true) (hb : Binds X.K fd ps [])
    (ha : PA (X.suite a ((a, oe) :: pn)) (e :: es) t) (hdb : (x == ("__debug__" : Str)) = false := by decide +kernel) (he : starEach (e :: es) X.env = (false, eval e X.env) :: starEach es X.env := by rfl) (hpl : (backTo pos (starEach es X.env)).any (·.1) = false := by rfl) :
    PE (X.suite a ((a, oe) :: pn)) (.Call (.Name x p) (e :: es) [] pos) (fun σ H Q => t σ H fun vs H1 => sp a oe vs H1 Q E0) := by
  refine ⟨fun pins s σ H Q I h => wpAny_Call_Name_kw (ld_glob (X := X.suite a ((a, oe) :: pn)) I hg hm (PySem.W.callWith_K (h₀ := X.base) I.ok.mod.kin hk (thn (ha.run pos pins s σ H _ I h) fun us s1 ⟨vs, H1, I1, r, q⟩ => ⟨I1.kIn, ?_⟩) he hpl) hdb)⟩
  obtain ⟨pg, pn', pL, pF, pc⟩ := I1.pin (a, oe) (List.mem_append.mpr (.inl List.mem_cons_self))
  have hl : us.length = ps.length := by rw [← r.length]; exact F.lg _ _ _ _ _ _ q
  have b := hb s1 us I1.kIn (by rw [List.append_nil]; exact hl)
  rw [List.append_nil] at b
  have hr' : Room k (Cool (X.suite a ((a, oe) :: pn)).A) := ⟨rfl, hr.dp, hr.un⟩
  refine wpAny_call (codeAny_mono (F.go (X.suite a ((a, oe) :: pn)).A X.stack s1 H1 ⟨us, []⟩ us vs Q E0 a oe rfl ⟨pg, pn', fun hm => (List.mem_cons.mp (I1.stkSub a hm)).elim pL pF, pc⟩ hr' I1.env0 b r q) fun rr s2 hq => ?_)
  cases rr with
  | error z => exact hq.elim
  | ok fl =>
    cases fl with
    | ret u => exact I1.after hq
    | next => exact hq.elim
    | brk => exact hq.elim
    | cont => exact hq.elim
def eHE (n : Nat) (m : List D → List D → Option D) (xs : List D) (Fs : Env → Option (List D)) : Env → Option D := fun ρ => match Fs ρ with
  | some ds => if ds.length + 1 = n then m xs ds else none
  | none => none
theorem feh_callP (c : CalHE X.prog X.w X.K X.mg X.base j x xm.c xm.fs nn m) (hr : Room k X.A) (hk : j ≤ k) (hg : Gl X x) (hN : X.N[i]? = some n) (hv : Vis X.env.scope n) (ha : FAhm X i xm O es Fs) (hdb : (x == ("__debug__" : Str)) = false := by decide +kernel) (hd : (n == ("__debug__" : Str)) = false := by decide +kernel) (hcd : (n == ("__classdict__" : Str)) = false := by decide +kernel)
    (he : starEach (.Name n p2 :: es) X.env = (false, eval (.Name n p2) X.env) :: starEach es X.env := by rfl) (hpl : (backTo pos (starEach es X.env)).any (·.1) = false := by rfl) : FEhm X i xm O (.Call (.Name x p) (.Name n p2 :: es) [] pos) (eHE nn m xm.ds Fs) := by
  obtain ⟨f, fd, ps, F, hm, hkp, hb⟩ := c.ok
  intro a oe pn dd φ Hf0 H0 ρ σ Hf H v d Q hc S hF k'
  unfold eHE at hF
  split at hF
  case h_2 => cases hF
  rename_i ds h1
  split at hF
  case isFalse => cases hF
  rename_i hl
  refine toE (pe_callP F (hr.mono hk) hg hm hkp hb (pa_cons (pe_var hN hv hd hcd) paW he) hdb he hpl) ?_
  refine ⟨.ref a, hc.s, ?_⟩
  refine ha a oe pn dd φ Hf0 H0 ρ σ Hf H v ds _ hc S h1 fun vs Hf1 H1 g1 r1 => ?_
  have hc1 := hc.gr g1.f
  exact ⟨φ, Hf1, vs, v, xm.ds, ds, d, dd, rfl, g1.s, hc1.z, hc1.f, hc1.h, hc1.l, hc1.r, r1, hl, hF, fun v Hf2 H2 g2 r2 => k' v Hf2 H2 (g1.trans g2) r2⟩
theorem feh_callTym {T : String} {r : List V → Hp → VK → Prop} {f : List D → Option D} (hc : ∀ (a : Addr) (oe : Obj) (pn : List (Addr × Obj)), CallR (X.suite a ((a, oe) :: pn)) (.type T) r) (hr : OpL X.K r f) (hg : Gl X x) (hm : X.mg x = none) (hv : bootBuiltins x = some (.type T)) (ha : FAhm X i xm O (e :: es) Fs) (hn : x ≠ "__name__" := by decide +kernel) (hdb : (x == ("__debug__" : Str)) = false := by decide +kernel)
    (he : starEach (e :: es) X.env = (false, eval e X.env) :: starEach es X.env := by rfl) (hpl : (backTo pos (starEach es X.env)).any (·.1) = false := by rfl) : FEhm X i xm O (.Call (.Name x p) (e :: es) [] pos) (eL f Fs) := fun a oe pn dd φ Hf0 H0 ρ σ Hf H v d Q hcc S hF k => by
  obtain ⟨ds, h1, h2⟩ := eL_some hF
  refine toE (pe_callTy (X := X.suite a ((a, oe) :: pn)) (hc a oe pn) hg hm hv paW hn hdb he hpl) ?_
  refine ha a oe pn dd φ Hf0 H0 ρ σ Hf H v ds _ hcc S h1 fun vs Hf1 H1 g1 r1 => ?_
  exact hr φ Hf1 H1 ds d vs Q g1.s r1.rpb h2 fun z Hf2 H2 g2 r2 => k z Hf2 H2 (g1.trans g2) r2
theorem feh_ixm {r : R2} {f : D → D → Option D} (ho : ∀ (a : Addr) (oe : Obj) (pn : List (Addr × Obj)), IxR (X.suite a ((a, oe) :: pn)) r) (hr : Op2 X.K r f) (ha : FEhm X i xm O a F) (hb : FEhm X i xm O b G) (hs : PlainIx b) : FEhm X i xm O (.Subscript a b pos) (e2 f F G) := fun aa oe pn dd φ Hf0 H0 ρ σ Hf H v d Q hc S hF k => by
  obtain ⟨x, y, h1, h2, h3⟩ := e2_some hF
  refine toE (pe_ix (X := X.suite aa ((aa, oe) :: pn)) (ho aa oe pn) peW peW hs) ?_
  refine ha aa oe pn dd φ Hf0 H0 ρ σ Hf H v x _ hc S h1 fun v1 Hf1 H1 g1 r1 => ?_
  refine hb aa oe pn dd φ Hf0 H0 ρ σ Hf1 H1 v y _ (hc.gr g1.f) (S.gr g1) h2 fun v2 Hf2 H2 g2 r2 => ?_
  exact hr φ Hf2 H2 x y d v1 v2 Q g2.s (.inl (r1.mono g2.f)) (.inl r2) h3 fun z Hf3 H3 g3 r3 => k z Hf3 H3 ((g1.trans g2).trans g3) r3
end
end FL
namespace FL
variable [HW]
open PySem PySem.Spec PyProof.Rows L2

/-! ### o[k] by the object's own __getitem__ -/
theorem fnIn_of {K : PySem.W.Frag} {m q : Str} {st : Stmt} {dvs : List V} {kws : List (Str × V)} {a : Addr} (Dd : FnAt K m q st dvs kws a) : PySem.W.fnIn K a = true := by
  obtain ⟨fd, F⟩ := Dd
  obtain ⟨oc, od, dV, kV, doc, pm, an, cdv, ct, osl, rfl, lk, _⟩ := F.ex
  unfold PySem.W.fnIn
  rw [lk]
section
variable {X : Cx} {O : List Nat} {c : Str} {j k : Nat} {mir : List D → Option D} {a b : Expr} {ta tb : TE} {pos : Pos} {F G : Env → Option D}
def ixI (c : Str) (mir : List D → Option D) : D → D → Option D := fun x y => match y with
  | .lst _ => none
  | y => (match x with
    | .ins c1 f1 x1 => if c1 = c then mir [.ins c1 f1 x1, y] else none
    | _ => none)
theorem ixI_some {x y d : D} (h : ixI c mir x y = some d) : ∃ f1 x1, x = .ins c f1 x1 ∧ mir [x, y] = some d := by
  unfold ixI at h
  split at h
  · cases h
  · split at h
    · split at h
      · rename_i hc
        subst hc
        exact ⟨_, _, rfl, h⟩
      · cases h
    · cases h
def tIxI (K : PySem.W.Frag) (c : Str) (mir : List D → Option D) (ta tb : TE) : TE := fun σ H Q => ta σ H fun x H1 => tb σ H1 fun y H2 => ∃ p dx gs, x = .ref p ∧ H2 p = some (.ins (He.ga K c) dx gs) ∧ spF K false 2 mir [x, y] H2 Q fun _ _ _ => False
theorem pe_ixI (cm : CalM X.prog X.w X.K X.mg X.base j c "__getitem__" false 2 mir []) {f0 : Addr} (hm0 : Meth X.K (He.ga X.K c) "__getitem__" f0) (hf0 : PySem.W.fnIn X.K f0 = true) (hr : Room k X.A) (hk : j + 1 ≤ k) (ha : PE X a ta) (hb : PE X b tb)
    (hsl : ∀ o i, subscripted b true o i = runValue (.builtin "lifetime.subscript" ⟨[o, i], []⟩)) : PE X (.Subscript a b pos) (tIxI X.K c mir ta tb) := by
  obtain ⟨f, fd, ps, Fn, hc, hm, hbd⟩ := calM_nil cm
  have ef : f0 = f := by
    have e1 := hm0.at_
    rw [hm.at_] at e1
    cases e1
    rfl
  subst ef
  refine ⟨fun pins s σ H Q I h => ?_⟩
  refine Subscript_ (binT ha hb I h fun v u s2 x y H2 I2 rx ry q => ?_)
  obtain ⟨p, dx, gs, rfl, h1, q⟩ := q
  cases rx
  obtain ⟨ox, od, J⟩ := insAt I2 h1
  obtain ⟨m, hF⟩ := I2.fr
  refine PySem.W.sub_K hF I2.ok.mod.kin J hm.at_ hf0 hm.fn ?_ (hsl _ _)
  exact me_run (A := X.A.in1) (m := c) (vs := [.ref p, y]) (us := [.ref p, u]) Fn hbd (Room.in1 (hr.mono hk)) I2.env0.in1 I2 (.cons rfl (.cons ry .nil)) q
theorem fe_ixI (cm : CalM X.prog X.w X.K X.mg X.base j c "__getitem__" false 2 mir []) {f0 : Addr} (hm0 : Meth X.K (He.ga X.K c) "__getitem__" f0) (hf0 : PySem.W.fnIn X.K f0 = true) (hr : Room k X.A) (hk : j + 1 ≤ k) (ha : FE X O a F) (hb : FE X O b G)
    (hsl : ∀ o i, subscripted b true o i = runValue (.builtin "lifetime.subscript" ⟨[o, i], []⟩) := by intro _ _; rfl) : FE X O (.Subscript a b pos) (e2 (ixI c mir) F G) := fun φ Hf0 H0 ρ σ Hf H d Q S hF q => by
  obtain ⟨x, y, h1, h2, h3⟩ := e2_some hF
  obtain ⟨f1, x1, rfl, h4⟩ := ixI_some h3
  refine toE (pe_ixI cm hm0 hf0 hr hk peW peW hsl) ?_
  refine ha φ Hf0 H0 ρ σ Hf H _ _ S h1 fun v1 Hf1 H1 g1 r1 => ?_
  refine hb φ Hf0 H0 ρ σ Hf1 H1 y _ (S.gr g1) h2 fun v2 Hf2 H2 g2 r2 => ?_
  have r1' := r1.mono g2.f
  cases r1' with
  | ins hi hl r =>
    exact ⟨_, _, _, rfl, g2.s _ _ hi, φ, Hf2, _, d, g2.s, .cons (.ins hi hl r) (.one r2), rfl, h4, fun z Hf3 H3 g3 r3 => q z Hf3 H3 ((g1.trans g2).trans g3) r3⟩
/-! bool(o) -/
theorem new_bool {P : Program} {w : World} {v : Value} : MeetsIn P w (Builtin.«bool.__new__» ⟨[.type "bool", v], []⟩) (fun A R s => wpAny (model P w) A.in1 (truthy v) (fun b s' => R (.ok (.ret (.bool b))) s') (fun e s' => R (.error e) s') s) :=
  .of_wp fun A R s h => by
    have hsub := F.conv_sub_bool
    unfold Builtin.«bool.__new__»
    show wpAny _ _ (isType (.type "bool") >>= _) _ _ _
    refine wpAny_bind (wpAny_of_eq (a := true) (by first | rfl | kernel_rfl!) ?_)
    dsimp only
    simp only [Bool.not_true, Bool.false_eq_true, if_false]
    refine wpAny_bind (wpAny_of_eq (a := true) hsub ?_)
    simp only [Bool.not_true, Bool.false_eq_true, if_false]
    refine wpAny_bind (m := someArgs "bool" 0 1 _) (wpAny_of_eq (a := [v]) (by first | rfl | kernel_rfl!) ?_)
    dsimp only
    exact wpAny_bind (wpAny_mono h (fun b s2 hb => wpAny_pure ⟨_, rfl, hb⟩) fun _ _ z => z)
def boolI (c : Str) (mir : List D → Option D) : List D → Option D := fun xs => match xs with
  | [.ins c1 f1 x1] => if c1 = c then (match mir [.ins c1 f1 x1] with | some (.bl t) => some (.bl t) | _ => none) else none
  | _ => none
theorem boolI_some {xs : List D} {d : D} (h : boolI c mir xs = some d) : ∃ f1 x1 t, xs = [.ins c f1 x1] ∧ mir [.ins c f1 x1] = some (.bl t) ∧ d = .bl t := by
  unfold boolI at h
  split at h
  · split at h
    · rename_i hc
      subst hc
      split at h
      · rename_i t ht
        cases h
        exact ⟨_, _, t, rfl, ht, rfl⟩
      · cases h
    · cases h
  · cases h
def rBoolI (K : PySem.W.Frag) (c : Str) (mir : List D → Option D) : List V → Hp → VK → Prop := fun xs H Q => ∃ a dx gs, xs = [.ref a] ∧ H a = some (.ins (He.ga K c) dx gs) ∧ spF K false 1 mir xs H (fun z H' => ∃ t, z = .bl t ∧ Q (.bl t) H') fun _ _ _ => False
theorem c_boolI (cm : CalM X.prog X.w X.K X.mg X.base j c "__bool__" false 1 mir []) (hr : Room k X.A) (hk : j + 2 ≤ k) : CallR X (.type "bool") (rBoolI X.K c mir) := by
  obtain ⟨f, fd, ps, Fn, hc, hm, hb⟩ := calM_nil cm
  intro pins s σ H xs us Q I r h
  obtain ⟨a, dx, gs, rfl, h1, q⟩ := h
  obtain rfl := Vals.ref1 r
  obtain ⟨ox, od, J⟩ := insAt I h1
  obtain ⟨m, hF⟩ := I.fr
  have hr1 : Room j X.A.in1.in1 := Room.in1 (Room.in1 (k := j + 1) (hr.mono hk))
  refine callType_newIn F.called_bool F.newNe_bool (F.typeCall_bool_1 _) (F.newCall_bool_1 _) (fun obj => F.args_object_init_2 obj _) F.entry_bool_new new_bool ?_
  refine PySem.W.truthy_K hF I.ok.mod.kin J hm.at_ hm.fn ?_
  refine wpAny_mono (me_run (m := c) (vs := [.ref a]) (us := [.ref a]) Fn hb hr1 I.env0.in1.in1 I (.cons rfl .nil) q) (fun w s' z => ?_) fun _ _ z => z
  obtain ⟨z', H', I', rz, t, rfl, qz⟩ := z
  obtain rfl : w = Value.bool t := rz
  exact ⟨PySem.typeIs_bool s' t, .bl t, H', I', rfl, qz⟩
theorem o_boolI : OpL X.K (rBoolI X.K c mir) (boolI c mir) := by
  intro φ Hf H xs d vs Q s r h q
  obtain ⟨f1, x1, t, rfl, h2, rfl⟩ := boolI_some h
  cases r with
  | cons r0 t0 =>
    cases t0
    rcases r0 with r0 | ⟨_, _, _, e, _⟩
    · cases r0 with
      | ins ha hl r =>
        refine ⟨_, _, _, rfl, s _ _ ha, φ, Hf, _, _, s, .one (.ins ha hl r), rfl, h2, fun z Hf2 H2 g2 r2 => ?_⟩
        cases r2
        exact ⟨_, rfl, q _ Hf2 H2 g2 (.bl _)⟩
    · cases e
end
/-! ### x in o, o of a class of our own whose __iter__ gives a dict's iterator -/
def KiO (d it : Addr) (od : Obj) : HO := .ext fun h => ∃ (es : Array DictEntry) (ep : Nat), od.data = .dict es ep ∧ h.get? it = some { cls := .type "dict_keyiterator", data := .fields #[.ref d, .int 0 0, .int es.size 0, .int ep 0] }
theorem kiO_ok {P : Program} {w : World} {H : Hp} {h : Heap} {d it : Addr} {od : Obj} {es : Array DictEntry} {ep : Nat} (e0 : od.data = .dict es ep) (e : h.get? it = some { cls := .type "dict_keyiterator", data := .fields #[.ref d, .int 0 0, .int es.size 0, .int ep 0] }) : ObjOk P w H h it (KiO d it od) :=
  ⟨⟨es, ep, e0, e⟩, ⟨_, e⟩, fun _ _ ⟨es', ep', z0, z⟩ k => ⟨es', ep', z0, k _ z⟩⟩
def rItK (n : Nat) : List V → Hp → VK → Prop := fun xs H Q => ∃ d od kvs, xs = [.ref d] ∧ H d = some (.frz od (.dK kvs)) ∧ ∀ it, H it = none → n ≤ it → Q (.ref it) (upd H it (KiO d it od))
theorem c_iterK {X : Cx} : CallR X (.builtin "iter") (rItK X.s_0.heap.objs.size) := by
  intro pins s σ H xs us Q I r h
  obtain ⟨d, od, kvs, rfl, hd, q⟩ := h
  obtain rfl := Vals.ref1 r
  obtain ⟨hs, hgd, hx, es, ep, vs, hdt, hsz, kv, hm⟩ := I.frzK hd
  refine Calls.call_function_entry (by decide +kernel) (by decide +kernel) PySem.W.kdk_entry_iter (PySem.W.kdk_args_iter _) ?_
  unfold Builtin.«iter»
  refine wpAny_bind (m := someArgs "iter" 1 2 _) (wpAny_of_eq (a := [Value.ref d]) (by first | rfl | kernel_rfl!) ?_)
  show wpAny _ _ (pyIter (.ref d) >>= _) _ _ _
  refine wpAny_bind (iter_keys hs hgd hx hdt (wpAny_pure ⟨_, rfl, ?_⟩))
  exact ⟨.ref s.heap.objs.size, _, I.laid (t' := s.toks) (fun b u e => Heap.get?_push_of_some _ e) (Nat.le_refl _) (kiO_ok hdt (Heap.get?_push_size _ rfl)), rfl, q _ (I.hok.fresh (Nat.le_refl _)) I.sz⟩
structure CalID (P : Program) (w : World) (K : PySem.W.Frag) (mg : Str → Option Value) (base : Heap) (k : Nat) (c g : Str) : Prop where
  ok : ∃ f, Meth K (He.ga K c) "__iter__" f ∧ Cls K (He.ga K c) ∧ ∀ (A : Around) (outer : List PySem.Env) (s : Shared) (H : Hp) (a dx d : Addr) (gs : List (Str × V)) (od : Obj) (kvs : List (Key × V)), Room k A → Env0 P w K mg base A outer s H → K.In s.heap → H a = some (.ins (He.ga K c) dx gs) → gs.lookup g = some (.ref d) → H d = some (.frz od (.dK kvs)) →
    codeAny (model P w) A (.call (.ref f) ⟨[.ref a], []⟩) (CR CX0 outer P w H s (fun z H' => ∃ it, z = .ref it ∧ H it = none ∧ s.heap.objs.size ≤ it ∧ H' = upd H it (KiO d it od)) fun _ _ _ => False) s
section
variable {P : Program} {w : World} {K : PySem.W.Frag} {mg : Str → Option Value} {base : Heap} {k : Nat} {c g q self : Str} {N : List Str} {st : Stmt} {p1 p2 p3 p4 p5 : Pos}
theorem calID_of (Dd : FnAt K "__iter__" q st [] [] (He.fAd K (c, some "__iter__"))) (hc : Cls K (He.ga K c)) (hm : Meth K (He.ga K c) "__iter__" (He.fAd K (c, some "__iter__"))) (hn : NoAttr K (He.ga K c) g) (S : FnScope N [self] (defScope st)) (hmg : mg "iter" = none)
    (hbind : ∀ (kV doc pm : Value) (an : Option Addr) (cdv ct : Value) (us : List Value), us.length = 1 → bindArgs (PySem.W.fnOf "__iter__" q (defArgs st) (defBody st) (defScope st) .none kV doc pm an cdv ct) ⟨us, []⟩ = pure ([self].zip us))
    (hbody : defBody st = [.Return (some (.Call (.Name "iter" p1) [.Attribute (.Name self p2) g p3] [] p4)) p5])
    (hN : N[0]? = some self) (hd : (self == ("__debug__" : Str)) = false) (hcd : (self == ("__classdict__" : Str)) = false)
    (hgl : ∀ (s : Shared) (a : Addr) (cdv : Value), (envOfC q (defScope st) s.heap.objs.size a cdv).kindOf "iter" = some .globalImplicit)
    (hv : ∀ (s : Shared) (a : Addr) (cdv : Value), Vis (envOfC q (defScope st) s.heap.objs.size a cdv).scope self) : CalID P w K mg base (k + 1) c g := by
  obtain ⟨fd, F⟩ := Dd
  have hb := FunD.bindsN F (ps := [self]) hbind
  refine ⟨_, hm, hc, fun A outer s H a dx d gs od kvs hr e0 kin h1 h2 h3 => run_here F S hr e0 ?_ (vs := [.ref a]) (.cons rfl .nil) rfl fun cdv hr2 => ?_⟩
  · have b := hb s [.ref a] kin rfl
    rw [List.append_nil] at b
    exact b
  · rw [hbody]
    refine ⟨_, pss_cons (ps_ret (pe_callB c_iterK (hgl _ _ _) hmg rfl (pa_cons (pe_fld (pe_var hN (hv _ _ _) hd hcd) rfl) pa_nil rfl) (by decide) (by decide) rfl rfl)) pss_nil, ?_⟩
    have h0 : (L2.start N [V.ref a])[0]? = some (some (.ref a)) := rfl
    refine ⟨.ref a, h0, a, He.ga K c, dx, gs, .ref d, rfl, h1, hc, hn, h2, d, od, kvs, rfl, h3, fun it n1 n2 => ⟨it, rfl, n1, n2, rfl⟩⟩
end
section
variable {X : Cx} {O O2 : List Nat} {c g : Str} {j k : Nat} {tg iter elt : Expr} {te : TE} {scope : Scope} {own : List (Str × Nat)} {pos xpos : Pos}
def iOwnK (K : PySem.W.Frag) (c g : Str) (te : TE) : TI := fun σ H R => te σ H fun v H1 => ∃ a dx gs d od kvs, v = .ref a ∧ H1 a = some (.ins (He.ga K c) dx gs) ∧ gs.lookup g = some (.ref d) ∧ H1 d = some (.frz od (.dK kvs)) ∧ R (Itk d od kvs) H1
theorem pi_ownK (cm : CalID X.prog X.w X.K X.mg X.base j c g) (hr : Room k X.A) (hk : j ≤ k) (he : PE X iter te) : PI X tg iter (iOwnK X.K c g te) := by
  obtain ⟨f, hm, hc, Fn⟩ := cm.ok
  refine ⟨fun pins s σ H R I h => ?_⟩
  refine thn (he.run pins s σ H _ I h) fun u s1 hu => ?_
  obtain ⟨_, H1, I1, rv, a, dx, gs, d, od, kvs, rfl, ha, hl, hs, qq⟩ := hu
  cases rv
  obtain ⟨ox, odd, J⟩ := insAt I1 ha
  obtain ⟨m, hF⟩ := I1.fr
  refine PySem.W.owit_iter hF I1.ok.mod.kin J hm.at_ hm.fn (wpAny_call (codeAny_mono (Fn X.A X.stack s1 H1 a dx d gs od kvs (hr.mono hk) I1.env0 I1.kIn ha hl hs) fun z s2 hz => ?_))
  match z, hz with
  | .error _, hz => exact False.elim hz
  | .ok (.ret u), hz =>
    obtain ⟨v2, H2, os, bare, un, hok, r2, it, e1, n1, n2, e2⟩ := hz
    subst e1
    subst e2
    cases r2
    obtain ⟨hh, gg, dd, tt, os'⟩ := s2
    obtain rfl : os' = s1.os := os
    have I2 : Inv X pins σ (upd H1 it (KiO d it od)) ⟨hh, gg, dd, tt, s1.os⟩ := I1.call (h' := hh) (g' := gg) (d' := dd) (t' := tt) (ch := []) un hok bare (fun b z => absurd z (by simp))
    have hit : (upd H1 it (KiO d it od)) it = some (KiO d it od) := upd_same
    obtain ⟨es, ep, hes, obj⟩ := (I2.hok it _ hit).1
    have hT : Shared.TypeIs ⟨hh, gg, dd, tt, s1.os⟩ (.ref it) "dict_keyiterator" := ⟨_, obj, rfl⟩
    unfold PySem.W.OwitIt
    refine wpAny_specialOf (name := Str.ofString "__next__") hT PySem.F.slot_dict_keyiterator_next.lookup ?_
    have dr : ItX.dropH (upd H1 it (KiO d it od)) it = H1 := ItX.dropH_upd n1
    have I3 := ItX.inv_drop I2 (show (upd H1 it (KiO d it od)) it = some (.ext _) from hit)
    rw [dr] at I3
    have fp := ItX.inv_fp I2 hit (Nat.le_trans I1.sz n2)
    rw [dr] at fp
    obtain ⟨_, _, _, es', ep', _, hdt, hsz, _, _⟩ := I3.frzK hs
    obtain ⟨rfl, rfl⟩ := dict_ep hes hdt
    refine ⟨it, [it], _, Itk d od kvs, H1, rfl, I3, turn_keys it hes, ⟨_, obj, rfl, ?_⟩, fun b hb => ?_, qq⟩
    · rw [hsz] <;> rfl
    · have : b = it := by simpa using hb
      rw [this]; exact fp
theorem lc_at {wi : TI} {tt : TT} {g : D → Env → Option Env} {T : Env → Option Bool} {E : Env → Option D} {tgs vs : List Nat} {ds ys : List D}
    (hg : ∀ s H C cl fp, FG (X.blk s H scope (compEnvC scope cl C X.env) fp) O O2 tgs tg g) (htg : ∀ i ∈ tgs, i ∈ vs)
    (ht : ∀ (φ : Nat → Option Addr) (Hf0 H0 : Hp) (ρ : Env) (σ : L2.St) (Hf H : Hp) (b : Bool) (Q : Bool → Hp → Prop), SR X.K φ Hf0 H0 O2 ρ σ Hf H → T ρ = some b → (∀ Hf' H', Gr Hf H Hf' H' → Q b H') → tt σ H Q)
    (he : ∀ s H C cl fp, FE (X.blk s H scope (compEnvC scope cl C X.env) fp) O2 elt E)
    {φ : Nat → Option Addr} {Hf0 H0 : Hp} {ρ : Env} {σ : L2.St} {Hf H : Hp} {Q : VK} (S : SR X.K φ Hf0 H0 O ρ σ Hf H)
    (hw : ∀ R : It → Hp → Prop, (∀ J Hf' H', Gr Hf H Hf' H' → ItB X.K φ Hf' H' ds J → R J H') → wi σ H R)
    (hlen : ds.length ≤ sizeLine) (hys : compL g T E (wipeE ρ vs) ds = some ys)
    (k : ∀ a us Hf' H', Gr Hf H Hf' H' → H a = none → Hf' a = none → H' a = some (.lst us) → RpAll X.K φ Hf' ys us → Q (.ref a) H') : tLc wi (uG X scope tg) tt (uE X scope elt) vs σ H Q := by
  refine hw _ fun J Hf1 H1 g1 itb => ?_
  intro Dn hDn
  refine ⟨fun i m H2 => m = ds.length - i ∧ i ≤ ds.length ∧ ∃ Hf2 acc us rest, Gr Hf1 H1 Hf2 H2 ∧ Hf2 Dn = none ∧ H2 Dn = some (.lst us) ∧ RpAll X.K φ Hf2 acc us ∧ acc.length ≤ i ∧ compL g T E (wipeE ρ vs) (ds.drop i) = some rest ∧ acc ++ rest = ys,
    ⟨ds.length, by simp, Nat.zero_le _, Hf1, [], [], ys, .own g1.s hDn, g1.s.free hDn, upd_same, .nil, Nat.le_refl _, by simpa using hys, rfl⟩, ?_⟩
  rintro i m H2 ⟨rfl, hil, Hf2, acc, us, rest, g2, hf2, hh2, r2, hal, hrest, rfl⟩
  by_cases hlt : i < ds.length
  · right
    have hget : ds[i]? = some ds[i] := List.getElem?_eq_getElem hlt
    obtain ⟨hgo, hyld⟩ := (itb i Hf2 H2 g2).2 _ hget
    refine ⟨hgo, fun H' => ∃ Hf3 acc' us' rest', Gr Hf1 H1 Hf3 H' ∧ Hf3 Dn = none ∧ H' Dn = some (.lst us') ∧ RpAll X.K φ Hf3 acc' us' ∧ acc'.length ≤ i + 1 ∧ compL g T E (wipeE ρ vs) (ds.drop (i + 1)) = some rest' ∧ acc' ++ rest' = acc ++ rest,
      fun H' ⟨Hf3, acc', us', rest', a1, a2, a3, a4, a5, a6, a7⟩ => ⟨ds.length - (i + 1), by omega, rfl, hlt, Hf3, acc', us', rest', a1, a2, a3, a4, a5, a6, a7⟩, fun x H3 hy => ?_⟩
    obtain ⟨Hf3, g3, r3⟩ := hyld x H3 hy
    have g13 := g2.trans g3
    have S3 := ((S.gr g1).gr g13).wipe vs
    rw [List.drop_eq_getElem_cons hlt] at hrest
    unfold compL at hrest
    split at hrest
    · cases hrest
    · rename_i ρ2 hρ2
      intro s0 h0 C0 cl0 fp0
      refine hg s0 h0 C0 cl0 fp0 φ Hf0 H0 _ _ Hf3 H3 _ x ρ2 _ S3 r3 hρ2 fun σ2 S4 w4 => ⟨(w4 vs htg).trans wipe_wipe, ?_⟩
      split at hrest
      · cases hrest
      · rename_i hT
        refine ht φ Hf0 H0 ρ2 σ2 Hf3 H3 false _ S4 hT fun Hf4 H4 g4 => ?_
        refine iteF ⟨Hf4, acc, us, rest, g13.trans g4, ?_, ?_, (r2.mono g3.f).mono g4.f, by omega, hrest, rfl⟩
        · exact (g3.trans g4).n _ _ hh2 hf2
        · exact (g3.trans g4).h _ _ hh2
      · rename_i hT
        split at hrest
        · cases hrest
        · rename_i y hy2
          split at hrest
          · cases hrest
          · rename_i ys2 hys2
            cases hrest
            refine ht φ Hf0 H0 ρ2 σ2 Hf3 H3 true _ S4 hT fun Hf4 H4 g4 => iteT ?_
            intro s1 h1 C1 cl1 fp1
            refine he s1 h1 C1 cl1 fp1 φ Hf0 H0 ρ2 σ2 Hf4 H4 y _ (S4.gr g4) hy2 fun v Hf5 H5 g5 r5 => ?_
            have g35 := g3.trans (g4.trans g5)
            have hh5 := g35.h _ _ hh2
            have hf5 := g35.n _ _ hh2 hf2
            refine ⟨us, hh5, by rw [← r2.length]; omega, Hf5, acc ++ [y], us ++ [v], ys2, ?_, hf5, upd_same, ((r2.mono g35.f).append (.one r5)), by rw [List.length_append, List.length_singleton]; omega, hys2, by simp⟩
            have gg := g2.trans g35
            refine ⟨gg.f, fun b o e => ?_, fun b o e => ?_, gg.n⟩
            · rw [upd_ne (ne_of_none e hDn)]; exact gg.h _ _ e
            · rw [upd_ne (ne_of_none e hf5)]; exact gg.s _ _ e
  · left
    have hie : i = ds.length := by omega
    refine ⟨(itb i Hf2 H2 g2).1 (by omega), ?_⟩
    subst hie
    rw [List.drop_length] at hrest
    cases hrest
    rw [List.append_nil] at *
    exact k Dn us Hf2 H2 (g1.trans g2) (g1.h.free hDn) hf2 hh2 r2
def eLcO (i0 : Nat) (c g : Str) (vs : List Nat) (gt : D → Env → Option Env) (E : Env → Option D) : Env → Option D := fun ρ => match ρ[i0]? with
  | some (some d0) => (match fldD c g d0 with
    | some (.dct ks0 _) => if ks0.length ≤ sizeLine then (match compL gt tYesE E (wipeE ρ vs) (ks0.map D.str) with | some ys => some (.lst ys) | none => none) else none
    | _ => none)
  | _ => none
theorem fn_lcO {x : Str} {i0 : Nat} {gt : D → Env → Option Env} {E : Env → Option D} {tgs : List Nat} (cm : CalID X.prog X.w X.K X.mg X.base j c g) (hr : Room k X.A) (hk : j ≤ k) (hx : X.N[i0]? = some x) (hvis : Vis X.env.scope x) (hO : O.contains i0 = false) (hc : X.calm = true) (hN : X.N.Nodup) (ok : BlkOk X.N X.env.scope scope own)
    (hg : ∀ s H C cl fp, FG (X.blk s H scope (compEnvC scope cl C X.env) fp) O O2 tgs tg gt) (he : ∀ s H C cl fp, FE (X.blk s H scope (compEnvC scope cl C X.env) fp) O2 elt E)
    (htg : (tgs.all fun i => (own.map (·.2)).contains i) = true) (hs : ∀ y, foldedSetIterable (.Name x xpos) X.env y = pure y := by intro _; rfl) (hd : (x == ("__debug__" : Str)) = false := by decide +kernel) (hcd : (x == ("__classdict__" : Str)) = false := by decide +kernel) :
    FN X O (.ListComp elt [⟨tg, .Name x xpos, [], 0⟩] scope pos) (eLcO i0 c g (own.map (·.2)) gt E) := by
  intro φ Hf0 H0 ρ σ Hf H d Q S hF k'
  unfold eLcO at hF
  split at hF
  case h_2 => cases hF
  rename_i d0 h0
  split at hF
  case h_2 => cases hF
  rename_i ks0 xs0 hfl
  split at hF
  case isFalse => cases hF
  rename_i hlen
  split at hF
  case h_2 => cases hF
  rename_i ys hys
  cases hF
  obtain ⟨fs, xs, rfl, hlk⟩ := fldD_some hfl
  have hno : i0 ∉ O := fun z => by
    have := List.contains_iff_mem.mpr z
    rw [hO] at this; cases this
  obtain ⟨v, e0, r0⟩ := S.val i0 _ h0 hno
  have pe := pe_lc (pos := pos) (wi := wI X tg (.Name x xpos)) (g := uG X scope tg) (tt := tYes) (te := uE X scope elt) hc hN piW ok (fun s H C cl fp => ⟨fun pins s' σ H' v u Q I r h => (h s H C cl fp).h pins s' u I r⟩) (fun _ _ _ _ _ => pts_nil) (fun s H C cl fp => ⟨fun pins s' σ H' Q I h => (h s H C cl fp).h pins s' I⟩) hs
  cases r0 with
  | @ins ai dx _ _ vs0 _ hai hl0 rr0 =>
    obtain ⟨vd, e1, r1⟩ := lkD_ok _ rr0 hlk
    cases r1 with
    | @dct a _ vs1 _ q l r =>
      have go : ∀ {Hf1 H1 : Hp} {Hfa H0a : Hp} (S1 : SR X.K φ Hfa H0a O ρ σ Hf1 H1) (od : Obj), H1 ai = some (.ins (He.ga X.K c) dx (fs.zip vs0)) → H1 a = some (.frz od (.dK (kz ks0 vs1))) → ∀ Q' : VK, (∀ a' us Hf' H', Gr Hf1 H1 Hf' H' → H1 a' = none → Hf' a' = none → H' a' = some (.lst us) → RpAll X.K φ Hf' ys us → Q' (.ref a') H') →
          tLc (wI X tg (.Name x xpos)) (uG X scope tg) tYes (uE X scope elt) (own.map (·.2)) σ H1 Q' := fun {Hf1 H1 Hfa H0a} S1 od hoi hfz Q' k2 => by
        refine lc_at (O := O) (O2 := O2) (ds := ks0.map D.str) (T := tYesE) hg (fun i hi => by simpa using (List.all_eq_true.mp htg) i hi) (fun φ Hf0 H0 ρ σ Hf H b Q S h k => by cases h; exact k Hf H (.refl S.sub)) he S1 (fun R h => ?_) (by simpa using hlen) hys k2
        refine toI (pi_ownK cm hr hk (pe_var hx hvis hd hcd)) ?_
        exact ⟨.ref ai, e0, ai, dx, _, a, od, _, rfl, hoi, e1, hfz, h _ Hf1 H1 (.refl S1.sub) (itB_keys l hfz)⟩
      have hHi : H ai = some (.ins (He.ga X.K c) dx (fs.zip vs0)) := S.sub _ _ hai
      rcases q with q | ⟨od, q⟩
      · refine toE (pe_lock pe) ?_
        have hH : H a = some (.dK (kz ks0 vs1)) := S.sub _ _ q
        refine ⟨a, .dK (kz ks0 vs1), hH, True.intro, fun od => ?_⟩
        have rdl : Rd (upd Hf a (.frz od (.dK (kz ks0 vs1)))) a (.dK (kz ks0 vs1)) := .inr ⟨od, upd_same⟩
        have up : ∀ {A : Hp} b o, b ≠ a → A b = some o → upd A a (.frz od (.dK (kz ks0 vs1))) b = some o := fun b o n e => by rw [upd_ne n]; exact e
        have nia : ai ≠ a := by rintro rfl; rw [hHi] at hH; cases hH
        have S1 : SR X.K φ (fun b => if b = a then none else Hf0 b) (fun b => if b = a then none else H0 b) O ρ σ (upd Hf a (.frz od (.dK (kz ks0 vs1)))) (upd H a (.frz od (.dK (kz ks0 vs1)))) := by
          refine ⟨S.len, fun b o e => ?_, fun b o e => ?_, fun b o e => ?_, fun b o e1 e2 => ?_, fun i d' e n => ?_, fun i d' e m => ?_, S.ne⟩
          · by_cases hb : b = a
            · subst hb; rw [upd_same] at e ⊢; exact e
            · rw [upd_ne hb] at e ⊢; exact S.sub _ _ e
          · by_cases hb : b = a
            · rw [if_pos hb] at e; cases e
            · rw [if_neg hb] at e; rw [upd_ne hb]; exact S.gf _ _ e
          · by_cases hb : b = a
            · rw [if_pos hb] at e; cases e
            · rw [if_neg hb] at e; rw [upd_ne hb]; exact S.gh _ _ e
          · by_cases hb : b = a
            · rw [if_pos hb] at e1; cases e1
            · rw [if_neg hb] at e1 e2; rw [upd_ne hb]; exact S.gn _ _ e1 e2
          · obtain ⟨v', w1, w2⟩ := S.val i d' e n
            exact ⟨v', w1, w2.swap (.inl q) rdl up⟩
          · obtain ⟨b, ys, us, w1, w2, w3, w4, w5, w6⟩ := S.own i d' e m
            have hb : b ≠ a := by rintro rfl; rw [q] at w4; cases w4
            exact ⟨b, ys, us, w1, w2, by rw [upd_ne hb]; exact w3, by rw [upd_ne hb]; exact w4, by rw [if_neg hb]; exact w5, RpAll.swap (.inl q) rdl up w6⟩
        refine go S1 od (by rw [upd_ne nia]; exact hHi) upd_same _ fun a' us Hf' H' g1 n1 n2 n3 r3 => ?_
        have fz : H' a = some (.frz od (.dK (kz ks0 vs1))) := g1.h _ _ upd_same
        have fzf : Hf' a = some (.frz od (.dK (kz ks0 vs1))) := g1.f _ _ upd_same
        have hna : a' ≠ a := by rintro rfl; rw [fz] at n3; cases n3
        refine ⟨fz, k' a' ys us (upd Hf' a (.dK (kz ks0 vs1))) (upd H' a (.dK (kz ks0 vs1))) rfl ⟨fun b o e => ?_, fun b o e => ?_, fun b o e => ?_, fun b o e1 e2 => ?_⟩ (by rw [upd_ne hna] at n1; exact n1) (by rw [upd_ne hna]; exact n2) (by rw [upd_ne hna]; exact n3) (RpAll.swap (.inr ⟨od, fzf⟩) (.inl upd_same) (fun b o n e => by rw [upd_ne n]; exact e) r3)⟩
        · by_cases hb : b = a
          · subst hb; rw [q] at e; cases e; exact upd_same
          · rw [upd_ne hb]; exact g1.f _ _ (by rw [upd_ne hb]; exact e)
        · by_cases hb : b = a
          · subst hb; rw [hH] at e; cases e; exact upd_same
          · rw [upd_ne hb]; exact g1.h _ _ (by rw [upd_ne hb]; exact e)
        · by_cases hb : b = a
          · subst hb; rw [upd_same] at e ⊢; exact e
          · rw [upd_ne hb] at e ⊢; exact g1.s _ _ e
        · have hb : b ≠ a := by rintro rfl; rw [q] at e2; cases e2
          rw [upd_ne hb]
          exact g1.n b o (by rw [upd_ne hb]; exact e1) (by rw [upd_ne hb]; exact e2)
      · refine toE pe (go S od hHi (S.sub _ _ q) Q fun a' us Hf' H' g n1 n2 n3 r3 => k' a' ys us Hf' H' rfl g n1 n2 n3 r3)
end
end FL
namespace FL
variable [HW]
open PySem PySem.Spec L2 PyProof.Rows

/-! ### an error is raised where none is handled: its context is None -/
section
variable {X : Cx} [WW X.w] {W : WX} {O O1 O' : List Nat} {st : Stmt} {sts : List Stmt} {e a : Expr} {pos : Pos} {F : Env → Option D}
theorem pmk_oneN {cls par fld txt : Str} {ta : TA} {p : Pos} {C fI : Addr} (T : OneC X.prog X.K C fI par fld txt) (hm : X.mg cls = some (.ref C)) (hS : X.mg "super" = none) (hr : Room 3 X.A) (ha : PA X [a] ta) (hg : Gl X cls) (hdb : (cls == ("__debug__" : Str)) = false := by decide +kernel)
    (he : starEach (a :: []) X.env = (false, eval a X.env) :: starEach [] X.env := by rfl) (hpl : (backTo pos (starEach [] X.env)).any (·.1) = false := by rfl) :
    L2N.PMk X (.Call (.Name cls p) [a] [] pos) (tMk1 X.K C fld txt.length ta) := by
  intro pins s σ H Q I h
  refine wpAny_Call_Name_kw (ld_glob I hg hm ?_ hdb)
  refine PySem.W.callWith_K (h₀ := X.base) I.ok.mod.kin T.kC (thn (ha.run pos pins s σ H _ I h) fun us s1 hh => ?_) he hpl
  obtain ⟨vs, H1, I1, r1, v, py, l, k, ev, dp, rl, hk, hl, q1⟩ := hh
  subst ev
  refine ⟨I1.kIn, ?_⟩
  cases r1 with
  | cons rv rn =>
    rename_i v' us'
    cases rn
    show wpAny _ _ (call (.ref C) [v']) _ _ _
    have hlim := I1.nolimit
    obtain ⟨as, rd⟩ := Dp.reads I1 py v v' dp rv
    obtain ⟨mb, hb1, hb2⟩ := I1.mod.blt
    have hbk := I1.bk
    obtain ⟨hp, g, dr, tk, os⟩ := s1
    refine wpAny_call (one_made (mg := X.mg) T I1.kIn hlim (I1.mod.glob.keeps hbk) ⟨mb, hb1.keeps hbk, hb2⟩ hS (by have := hr.dp; omega) (by have := hr.un; omega) (RTop.of_reads rd rl hk (by omega)) hl fun h' tk' e d M => ?_)
    show L2N.MkP X pins σ Q (.ref e) ⟨h', g, dr, tk', os⟩
    obtain ⟨oe, fv, hoe, hc, hd, hdat, h1, h2, h3⟩ := M.obj
    have hns := M.ns
    obtain ⟨G', g1, g2⟩ := restrict h' fun b => decide (b ≠ e)
    have gk : ∀ b, b ≠ e → G'.get? b = h'.get? b := fun b hb => g1 b (decide_eq_true hb)
    have ge : G'.get? e = none := g2 e (by simp)
    have old : ∀ b o, hp.get? b = some o → G'.get? b = some o := fun b o q => (gk b (Nat.ne_of_lt (Nat.lt_of_lt_of_le (Heap.lt_size q) M.new))).trans (M.keep b o q)
    have ob : ObjOk X.prog X.w (upd H1 d (.xd [(fld, v)])) G' d (.xd [(fld, v)]) :=
      ⟨_, hns.at (fun o q => (gk d M.dne).trans q), fun f => lookup_one rv fld f⟩
    have J : Inv X pins σ (upd H1 d (.xd [(fld, v)])) ⟨G', g, dr, tk', os⟩ := I1.laid (t' := tk') old M.dbig ob
    refine ⟨e, oe, fv, ⟨G', g, dr, tk', os⟩, _, .ref C, some d, rfl, J, fun b o q => ?_, ge, hoe, ⟨hc, hd, fun vs e => by rw [hdat] at e; cases e; exact h2⟩, hdat, h1, ?_, rfl, I1.bare, raises_own T.isB T.tC, q1 d (I1.hok.fresh M.dbig)⟩
    · by_cases hb : b = e
      · have q' : G'.get? b = some o := q
        rw [hb, ge] at q'; cases q'
      · exact (gk b hb).symm.trans q
    · rw [upd_ne (Ne.symm M.dne)]
      exact I1.hok.fresh M.new
theorem fx_raiseN {cls par fld txt : Str} {p pos2 : Pos} {fI : Addr} (hc : X.calm = true) (tk : L2N.Takes X W) (T : OneC X.prog X.K (He.ga X.K cls) fI par fld txt) (hm : X.mg cls = some (.ref (He.ga X.K cls))) (hS : X.mg "super" = none) (hr : Room 3 X.A) (hg : Gl X cls) (ha : FE X O a F) (htx : txt.length ≤ 1000 := by decide +kernel) (hdb : (cls == ("__debug__" : Str)) = false := by decide +kernel)
    (he : starEach (a :: []) X.env = (false, eval a X.env) :: starEach [] X.env := by rfl) (hpl : (backTo pos (starEach [] X.env)).any (·.1) = false := by rfl) :
    FX X W O O (.Raise (some (.Call (.Name cls p) [a] [] pos)) none pos2) (xHere (xRaise cls fld F)) := by
  intro φ Hf0 H0 ρ σ Hf H x ρ' Dn S hF P
  unfold xHere at hF
  split at hF
  · rename_i y hy
    cases hF
    unfold xRaise at hy
    split at hy
    · rename_i d hd
      split at hy
      · rename_i hok
        cases hy
        unfold rOk at hok
        split at hok
        · rename_i l k hrl
          simp only [Bool.and_eq_true, decide_eq_true_eq] at hok
          refine toS (L2N.ps_raise hc tk (pmk_oneN T hm hS hr (pa_cons peW pa_nil he) hg hdb he hpl)) ?_
          refine ha φ Hf0 H0 ρ σ Hf H d _ S hd fun v Hf1 H1 g1 r1 => ?_
          refine ⟨v, toPy d, l, k, rfl, (r1.mono g1.s).dp hok.2, hrl, hok.1.2, by rw [sizeLine_eq]; omega, fun dd hdd => ?_⟩
          have g2 : Gr Hf1 H1 (upd Hf1 dd (.xd [(fld, v)])) (upd H1 dd (.xd [(fld, v)])) := .new g1.s hdd
          exact P σ dd v _ _ (g1.f.trans g2.f) ((S.gr g1).gr g2) upd_same (r1.mono g2.f)
        · cases hok
      · cases hy
    · cases hy
  · cases hF
end
/-! ### walks over range while an error is handled -/
def wIH (X : Cx) (tg iter : Expr) : TI := fun σ H R => Lk (∀ pins s, Inv X pins σ H s → wpAny (model X.prog X.w) X.A (eval iter X.env) (fun v s1 => wpAny (model X.prog X.w) X.A (pyIter v) (L2H.PIEH X pins σ tg R) X.xe s1) X.xe s)
theorem piWH {X : Cx} {tg iter : Expr} : L2H.PIH X tg iter (wIH X tg iter) := ⟨fun pins s σ H R I h => h.h pins s I⟩
theorem toIH {X : Cx} {tg iter : Expr} {t : TI} (h : L2H.PIH X tg iter t) {σ : L2.St} {H : Hp} {R : It → Hp → Prop} (q : t σ H R) : wIH X tg iter σ H R := ⟨fun pins s I => h.run pins s σ H R I q⟩
def FIH (X : Cx) (O : List Nat) (tg iter : Expr) (F : Env → Option (List D)) : Prop :=
  ∀ (φ : Nat → Option Addr) (Hf0 H0 : Hp) (ρ : Env) (σ : L2.St) (Hf H : Hp) (ds : List D) (R : It → Hp → Prop), SR X.K φ Hf0 H0 O ρ σ Hf H → F ρ = some ds → (∀ J Hf' H', Gr Hf H Hf' H' → ItD X.K φ Hf' ds J → R J H') → wIH X tg iter σ H R
section
variable {X : Cx} {O : List Nat} {tg a : Expr} {p pos : Pos} {Fs : Env → Option (List D)}
theorem fih_rng1 (hg : Gl X "range") (hm : X.mg "range" = none) (h : FA X O [a] Fs) (hs : starEach [a] X.env = [(false, eval a X.env)] := by rfl) : FIH X O tg (.Call (.Name "range" p) [a] [] pos) (iRng1 Fs) := by
  intro φ Hf0 H0 ρ σ Hf H ds R S hF k
  unfold iRng1 at hF
  split at hF
  · rename_i j hj
    split at hF
    · rename_i hb
      cases hF
      refine toIH (L2H.pi_range1H hg hm paW hs) ?_
      refine h φ Hf0 H0 ρ σ Hf H _ _ S hj fun vs Hf1 H1 g1 r1 => ?_
      cases r1 with
      | cons r t =>
        cases t
        cases r
        exact ⟨j, rfl, hb.1, hb.2, k _ Hf1 H1 g1 itD_rng⟩
    · cases hF
  · cases hF
theorem fs_forH {tg iter : Expr} {body : List Stmt} {O1 tgs L : List Nat} {g : D → Env → Option Env} {G : Env → Option Out} {fr : Bool} {Fi : Env → Option (List D)} (hp : PassesOwn (model X.prog X.w) X.A X.env X.xe) (hc : L2H.HotC X) (hi : FIH X O tg iter Fi) (hg : FG X O O1 tgs tg g) (hb : FSs X fr O O1 O body G) (hs : ∀ x, foldedSetIterable iter X.env x = pure x := by intro _; rfl) : FS X fr L O O (.For tg iter body [] pos) (sFor Fi g G) := fun φ Hf0 H0 ρ σ Hf H out Dn S hF P => by
  unfold sFor at hF
  split at hF
  · rename_i ds hds
    refine toS (L2H.ps_forH hp hc piWH pgW pssW hs) ?_
    refine hi φ Hf0 H0 ρ σ Hf H ds _ S hds fun J Hf1 H1 g1 itd => ?_
    refine ⟨fun i m σ2 H2 => m = ds.length - i ∧ i ≤ ds.length ∧ ∃ ρ2 Hf2, Same Hf1 Hf2 ∧ SR X.K φ Hf0 H0 O ρ2 σ2 Hf2 H2 ∧ loopF g G (ds.drop i) ρ2 = some out, ⟨ds.length, by simp, Nat.zero_le _, ρ, Hf1, Same.refl _, S.gr g1, by simpa using hF⟩, ?_⟩
    rintro i m σ2 H2 ⟨rfl, hil, ρ2, Hf2, s2, S2, hl⟩
    by_cases hlt : i < ds.length
    · right
      have hget : ds[i]? = some ds[i] := List.getElem?_eq_getElem hlt
      obtain ⟨hgo, hyld⟩ := (itd i Hf2 H2 s2 S2.sub).2 _ hget
      rw [List.drop_eq_getElem_cons hlt] at hl
      unfold loopF at hl
      split at hl
      · cases hl
      · rename_i ρ3 hρ3
        refine ⟨hgo, fun σ' H' => ∃ ρ' Hf', Same Hf1 Hf' ∧ SR X.K φ Hf0 H0 O ρ' σ' Hf' H' ∧ loopF g G (ds.drop (i + 1)) ρ' = some out, fun σ' H' ⟨ρ', Hf', a1, a2, a3⟩ => ⟨ds.length - (i + 1), by omega, rfl, hlt, ρ', Hf', a1, a2, a3⟩, fun x H3 hy => ?_⟩
        obtain ⟨Hf3, g3, r3⟩ := hyld x H3 hy
        have s3 := s2.trans g3.f
        refine hg φ Hf0 H0 ρ2 σ2 Hf3 H3 _ x ρ3 _ (S2.gr g3) r3 hρ3 fun σ4 S4 _ => ?_
        split at hl
        · rename_i ρ4 h4
          exact hb φ Hf0 H0 ρ3 σ4 Hf3 H3 _ _ S4 h4 fun σ' Hf' H' s' S' => ⟨ρ4, Hf', s3.trans s', S', hl⟩
        · rename_i ρ4 h4
          exact hb φ Hf0 H0 ρ3 σ4 Hf3 H3 _ _ S4 h4 fun σ' Hf' H' s' S' => ⟨ρ4, Hf', s3.trans s', S', hl⟩
        · rename_i ρ4 h4
          cases hl
          exact hb φ Hf0 H0 ρ3 σ4 Hf3 H3 _ _ S4 h4 fun σ' Hf' H' s' S' => P σ' Hf' H' (g1.f.trans (s3.trans s')) S'
        · rename_i d h4
          cases hl
          exact hb φ Hf0 H0 ρ3 σ4 Hf3 H3 _ _ S4 h4 P
        · cases hl
    · left
      have hie : i = ds.length := by omega
      subst hie
      rw [List.drop_length] at hl
      cases hl
      exact ⟨(itd _ Hf2 H2 s2 S2.sub).1 (Nat.le_refl _), P σ2 Hf2 H2 (g1.f.trans s2) S2⟩
  · cases hF
end
/-! ### defs that are called while an error is handled, and walk -/
def HotO (oe : Obj) : Prop := ∃ v1 : Array Value, oe.data = .fields v1 ∧ v1[2]? = some .none
def spQ (sp : Sp) : Addr → Obj → Sp := fun _ oe vs H Q E => HotO oe ∧ sp vs H Q E
structure CalHQ (P : Program) (w : World) (K : PySem.W.Frag) (mg : Str → Option Value) (base : Heap) (k : Nat) (x : Str) (n : Nat) (m : List D → Option D) : Prop where
  ok : ∃ (f : Addr) (fd : FuncData) (ps : List Str), FnHotP P w K mg base k f fd ps (spQ (spF K false n m)) ∧ mg x = some (.ref f) ∧ PySem.W.keepIn K (.ref f) = true ∧ Binds K fd ps []
section
variable {P : Program} {w : World} {K : PySem.W.Frag} {mg : Str → Option Value} {base : Heap} {k : Nat} {a0 : Addr} {ps N : List Str} {x : Str} {st : Stmt} {G : Env → Option Out} {N' n : Nat}
theorem calHQ_zero (Dd : DefAt K x st a0) (g : mg x = some (.ref a0)) (hbind : ∀ (kV doc pm : Value) (an : Option Addr) (cdv ct : Value) (us : List Value), us.length = ps.length → bindArgs (PySem.W.fnOf x x (defArgs st) (defBody st) (defScope st) .none kV doc pm an cdv ct) ⟨us, []⟩ = pure (ps.zip us)) : CalHQ P w K mg base k x n (fun _ => none) := by
  obtain ⟨fd, F⟩ := Dd
  exact ⟨a0, fd, ps, ⟨fun a oe vs H Q E ⟨_, _, _, _, _, _, _, _, h, _⟩ => (nomatch h), fun B fr z H ar us vs Q E a oe _ _ _ _ _ _ ⟨_, _, _, _, _, _, _, _, h, _⟩ => (nomatch h)⟩, g, F.kp, FunD.bindsN F hbind⟩
theorem calHQ_of [WW w] (Dd : DefAt K x st a0) (g : mg x = some (.ref a0)) (S : FnScope N ps (defScope st)) (hN : N' = N.length) (hn : n = ps.length)
    (hbind : ∀ (kV doc pm : Value) (an : Option Addr) (cdv ct : Value) (us : List Value), us.length = ps.length → bindArgs (PySem.W.fnOf x x (defArgs st) (defBody st) (defScope st) .none kV doc pm an cdv ct) ⟨us, []⟩ = pure (ps.zip us))
    (O' : List Nat) (hb : ∀ (cdv : Value) (A : Around) (outer : List PySem.Env) (s : Shared) (H : Hp) (E : XK) (a : Addr) (oe : Obj), Room k (Cool (A.deeper (envOfC x (defScope st) s.heap.objs.size a0 cdv))) → L2H.HotC (cxHotP P w K mg base N x (defScope st) a0 cdv A outer s H E a oe).nox →
      FSs (cxHotP P w K mg base N x (defScope st) a0 cdv A outer s H E a oe).nox false [] [] O' (defBody st) G) : CalHQ P w K mg base (k + 1) x n (runD false N' n G) := by
  obtain ⟨fd, F⟩ := Dd
  subst hN hn
  refine ⟨a0, fd, ps, fnHotP_of F S (fun a oe vs H Q E h => ?_) (fun cdv B fr z H vs Q E a oe hB hr h => ?_), g, F.kp, FunD.bindsN F hbind⟩
  · obtain ⟨_, φ, Hf, ds, d, _, r, hl, _⟩ := h
    rw [← r.length]; exact hl
  · obtain ⟨⟨v1, e1, c1⟩, φ, Hf, ds, d, hs, r, hl, hm, hk⟩ := h
    have hot : L2H.HotC (cxHotP P w K mg base N x (defScope st) a0 cdv B fr z H E a oe).nox := ⟨(a, oe), ⟨hB, v1, e1, c1⟩, List.mem_cons_self⟩
    refine ⟨_, PSs.nox pssW, ?_⟩
    have hvl : vs.length = ps.length := by rw [← r.length]; exact hl
    unfold L2.start
    rw [hvl]
    unfold runD envOf at hm
    have S0 : SR K φ Hf H [] (ds.map some ++ List.replicate (N.length - ps.length) none) (vs.map some ++ List.replicate (N.length - ps.length) none) Hf H :=
      ⟨by simp [r.length], hs, Same.refl _, Same.refl _, fun _ _ _ z => z, fun i d e _ => r.val _ i d e, fun i d _ m => absurd m (by simp), fun i j _ _ _ _ _ m => absurd m (by simp)⟩
    split at hm
    · rename_i d' h'
      cases hm
      exact hb cdv B fr z H E a oe hr hot φ Hf H _ _ Hf H _ _ S0 h' hk
    · rename_i ρ' h'
      cases hm
      exact hb cdv B fr z H E a oe hr hot φ Hf H _ _ Hf H _ _ S0 h' fun σ' Hf' H' s' S' => hk _ Hf' H' S'.from0 .non
    · cases hm
end
section
variable {X : Cx} [WW X.w] {O : List Nat} {es : List Expr} {e : Expr} {x : Str} {p pos : Pos} {k j nn : Nat} {m : List D → Option D} {Fs : Env → Option (List D)}
theorem pe_callQ {f : Addr} {fd : FuncData} {ps : List Str} {sp : Sp} {t : TA} (F : FnHotP X.prog X.w X.K X.mg X.base k f fd ps (spQ sp)) (hot : L2H.HotC X) (hr : Room k (Cool X.A)) (hg : Gl X x) (hm : X.mg x = some (.ref f)) (hk : PySem.W.keepIn X.K (.ref f) = true) (hb : Binds X.K fd ps [])
    (ha : PA X (e :: es) t) (hdb : (x == ("__debug__" : Str)) = false := by decide +kernel) (he : starEach (e :: es) X.env = (false, eval e X.env) :: starEach es X.env := by rfl) (hpl : (backTo pos (starEach es X.env)).any (·.1) = false := by rfl) :
    PE X (.Call (.Name x p) (e :: es) [] pos) (fun σ H Q => t σ H fun vs H1 => sp vs H1 Q E0) := by
  obtain ⟨⟨a, oe⟩, ⟨hh, v1, e1, c1⟩, hp⟩ := hot
  refine ⟨fun pins s σ H Q I h => wpAny_Call_Name_kw (ld_glob I hg hm (PySem.W.callWith_K (h₀ := X.base) I.ok.mod.kin hk (thn (ha.run pos pins s σ H _ I h) fun us s1 ⟨vs, H1, I1, r, q⟩ => ⟨I1.kIn, ?_⟩) he hpl) hdb)⟩
  obtain ⟨pg, pn', pL, pF, pc⟩ := I1.pin (a, oe) (List.mem_append.mpr (.inl hp))
  have hl : us.length = ps.length := by rw [← r.length]; exact F.lg a oe _ _ _ _ ⟨⟨v1, e1, c1⟩, q⟩
  have b := hb s1 us I1.kIn (by rw [List.append_nil]; exact hl)
  rw [List.append_nil] at b
  refine wpAny_call (codeAny_mono (F.go X.A X.stack s1 H1 ⟨us, []⟩ us vs Q E0 a oe hh ⟨pg, pn', fun hm => (List.mem_cons.mp (I1.stkSub a hm)).elim pL pF, pc⟩ hr I1.env0 b r ⟨⟨v1, e1, c1⟩, q⟩) fun rr s2 hq => ?_)
  cases rr with
  | error z => exact hq.elim
  | ok fl =>
    cases fl with
    | ret u => exact I1.after hq
    | next => exact hq.elim
    | brk => exact hq.elim
    | cont => exact hq.elim
theorem fe_callQ (c : CalHQ X.prog X.w X.K X.mg X.base j x nn m) (hot : L2H.HotC X) (hr : Room k (Cool X.A)) (hk : j ≤ k) (hg : Gl X x) (ha : FA X O (e :: es) Fs) (hdb : (x == ("__debug__" : Str)) = false := by decide +kernel) (he : starEach (e :: es) X.env = (false, eval e X.env) :: starEach es X.env := by rfl)
    (hpl : (backTo pos (starEach es X.env)).any (·.1) = false := by rfl) : FE X O (.Call (.Name x p) (e :: es) [] pos) (eL (mL nn m) Fs) := by
  obtain ⟨f, fd, ps, F, hm, hkp, hb⟩ := c.ok
  intro φ Hf0 H0 ρ σ Hf H d Q S hF k'
  obtain ⟨ds, h1, h2⟩ := eL_some hF
  unfold mL at h2
  split at h2
  · rename_i hl
    refine toE (pe_callQ F hot (hr.mono hk) hg hm hkp hb paW hdb he hpl) ?_
    refine ha φ Hf0 H0 ρ σ Hf H ds _ S h1 fun vs Hf1 H1 g1 r1 => ?_
    exact ⟨φ, Hf1, ds, d, g1.s, r1, hl, h2, fun v Hf2 H2 g2 r2 => k' v Hf2 H2 (g1.trans g2) r2⟩
  · cases h2
theorem hotS {cls : Value} {d : Option Addr} {oe : Obj} {a : Addr} {pn : List (Addr × Obj)} (z : L2N.Zn cls d oe) (h : ∃ vs, oe.data = .fields vs) : L2H.HotC (X.suite a ((a, oe) :: pn)) := by
  obtain ⟨v1, e1⟩ := h
  exact ⟨(a, oe), ⟨rfl, v1, e1, z.2.2 v1 e1⟩, List.mem_cons_self⟩
theorem feh_callQ {i : Nat} {xm : XM} (c : CalHQ X.prog X.w X.K X.mg X.base j x nn m) (hr : Room k X.A) (hk : j ≤ k) (hg : Gl X x) (ha : FAhm X i xm O (e :: es) Fs) (hdb : (x == ("__debug__" : Str)) = false := by decide +kernel) (he : starEach (e :: es) X.env = (false, eval e X.env) :: starEach es X.env := by rfl)
    (hpl : (backTo pos (starEach es X.env)).any (·.1) = false := by rfl) : FEhm X i xm O (.Call (.Name x p) (e :: es) [] pos) (eL (mL nn m) Fs) := by
  obtain ⟨f, fd, ps, F, hm, hkp, hb⟩ := c.ok
  intro a oe pn dd φ Hf0 H0 ρ σ Hf H v d Q hc S hF k'
  obtain ⟨ds, h1, h2⟩ := eL_some hF
  unfold mL at h2
  split at h2
  · rename_i hl
    have hr' : Room k (Cool (X.suite a ((a, oe) :: pn)).A) := ⟨rfl, hr.dp, hr.un⟩
    refine toE (pe_callQ (X := X.suite a ((a, oe) :: pn)) F (hotS hc.z hc.f) (hr'.mono hk) hg hm hkp hb paW hdb he hpl) ?_
    refine ha a oe pn dd φ Hf0 H0 ρ σ Hf H v ds _ hc S h1 fun vs Hf1 H1 g1 r1 => ?_
    exact ⟨φ, Hf1, ds, d, g1.s, r1, hl, h2, fun v Hf2 H2 g2 r2 => k' v Hf2 H2 (g1.trans g2) r2⟩
  · cases h2
end
end FL
namespace LW
open PySem PySem.Spec L2 FL
variable [HW]
local macro_rules | `(tactic| walk_at "VIS") => `(tactic| first | exact Or.inl rfl | exact Or.inr (Or.inl rfl) | exact Or.inr (Or.inr rfl))
local macro_rules | `(tactic| walk_at "LOC") => `(tactic| first | exact Or.inl rfl | exact Or.inr rfl)
def top (i : Nat) : Stmt := PySem.Challenge.pw_lyingstandins_k13_thing_operators.main.body.getD i (.Pass ⟨0, 0, 0, 0⟩)
abbrev s__reading : Stmt := top 14
abbrev N__reading : List Str := ["field", "shut", "kind"]
theorem sc__reading : FnScope N__reading ["field", "shut", "kind"] (defScope s__reading) := ⟨rfl, rfl, rfl, by decide +kernel, rfl, by decide +kernel, by decide +kernel⟩
abbrev s__can_replace : Stmt := top 12
abbrev N__can_replace : List Str := ["old", "new"]
theorem sc__can_replace : FnScope N__can_replace ["old", "new"] (defScope s__can_replace) := ⟨rfl, rfl, rfl, by decide +kernel, rfl, by decide +kernel, by decide +kernel⟩
abbrev s__is_done : Stmt := top 11
abbrev N__is_done : List Str := ["field", "shut", "deed", "kind"]
theorem sc__is_done : FnScope N__is_done ["field", "shut", "deed"] (defScope s__is_done) := ⟨rfl, rfl, rfl, by decide +kernel, rfl, by decide +kernel, by decide +kernel⟩
abbrev s__field_after : Stmt := top 13
abbrev N__field_after : List Str := ["field", "deed", "kind"]
theorem sc__field_after : FnScope N__field_after ["field", "deed"] (defScope s__field_after) := ⟨rfl, rfl, rfl, by decide +kernel, rfl, by decide +kernel, by decide +kernel⟩
abbrev s_act : Stmt := top 10
abbrev N_act : List Str := ["standing", "deed", "field", "shut", "kind"]
theorem sc_act : FnScope N_act ["standing", "deed"] (defScope s_act) := ⟨rfl, rfl, rfl, by decide +kernel, rfl, by decide +kernel, by decide +kernel⟩
abbrev s_Recorded___init__ : Stmt := clsM (top 17) 0
abbrev N_Recorded___init__ : List Str := ["self"]
theorem sc_Recorded___init__ : FnScope N_Recorded___init__ ["self"] (defScope s_Recorded___init__) := ⟨rfl, rfl, rfl, by decide +kernel, rfl, by decide +kernel, by decide +kernel⟩
abbrev s__with_field : Stmt := top 18
abbrev N__with_field : List Str := ["fields", "name", "field", "other"]
theorem sc__with_field : FnScope N__with_field ["fields", "name", "field"] (defScope s__with_field) := ⟨rfl, rfl, rfl, by decide +kernel, rfl, by decide +kernel, by decide +kernel⟩
abbrev s_Thing___init__ : Stmt := clsM (top 19) 0
abbrev N_Thing___init__ : List Str := ["self", "rows", "name", "value", "changes", "goes"]
theorem sc_Thing___init__ : FnScope N_Thing___init__ ["self", "rows"] (defScope s_Thing___init__) := ⟨rfl, rfl, rfl, by decide +kernel, rfl, by decide +kernel, by decide +kernel⟩
abbrev s_Thing__done : Stmt := clsM (top 19) 2
abbrev N_Thing__done : List Str := ["self", "deed", "name", "answer", "field", "shut"]
theorem sc_Thing__done : FnScope N_Thing__done ["self", "deed"] (defScope s_Thing__done) := ⟨rfl, rfl, rfl, by decide +kernel, rfl, by decide +kernel, by decide +kernel⟩
abbrev s_Thing__keep : Stmt := clsM (top 17) 2
abbrev N_Thing__keep : List Str := ["self", "event"]
theorem sc_Thing__keep : FnScope N_Thing__keep ["self", "event"] (defScope s_Thing__keep) := ⟨rfl, rfl, rfl, by decide +kernel, rfl, by decide +kernel, by decide +kernel⟩
abbrev s_Thing_ask : Stmt := clsM (top 19) 1
abbrev N_Thing_ask : List Str := ["self", "deed", "answer"]
theorem sc_Thing_ask : FnScope N_Thing_ask ["self", "deed"] (defScope s_Thing_ask) := ⟨rfl, rfl, rfl, by decide +kernel, rfl, by decide +kernel, by decide +kernel⟩
abbrev s_Thing___getitem__ : Stmt := clsM (top 19) 3
abbrev N_Thing___getitem__ : List Str := ["self", "name", "field"]
theorem sc_Thing___getitem__ : FnScope N_Thing___getitem__ ["self", "name"] (defScope s_Thing___getitem__) := ⟨rfl, rfl, rfl, by decide +kernel, rfl, by decide +kernel, by decide +kernel⟩
abbrev s_Thing___setitem__ : Stmt := clsM (top 19) 4
abbrev N_Thing___setitem__ : List Str := ["self", "name", "value", "deed"]
theorem sc_Thing___setitem__ : FnScope N_Thing___setitem__ ["self", "name", "value"] (defScope s_Thing___setitem__) := ⟨rfl, rfl, rfl, by decide +kernel, rfl, by decide +kernel, by decide +kernel⟩
abbrev s_Thing___contains__ : Stmt := clsM (top 19) 5
abbrev N_Thing___contains__ : List Str := ["self", "name"]
theorem sc_Thing___contains__ : FnScope N_Thing___contains__ ["self", "name"] (defScope s_Thing___contains__) := ⟨rfl, rfl, rfl, by decide +kernel, rfl, by decide +kernel, by decide +kernel⟩
abbrev s_Thing___iter__ : Stmt := clsM (top 19) 6
abbrev N_Thing___iter__ : List Str := ["self"]
theorem sc_Thing___iter__ : FnScope N_Thing___iter__ ["self"] (defScope s_Thing___iter__) := ⟨rfl, rfl, rfl, by decide +kernel, rfl, by decide +kernel, by decide +kernel⟩
abbrev s_Thing___bool__ : Stmt := clsM (top 19) 7
abbrev N_Thing___bool__ : List Str := ["self"]
theorem sc_Thing___bool__ : FnScope N_Thing___bool__ ["self"] (defScope s_Thing___bool__) := ⟨rfl, rfl, rfl, by decide +kernel, rfl, by decide +kernel, by decide +kernel⟩
abbrev s_Thing_is_shut : Stmt := clsM (top 19) 8
abbrev N_Thing_is_shut : List Str := ["self"]
theorem sc_Thing_is_shut : FnScope N_Thing_is_shut ["self"] (defScope s_Thing_is_shut) := ⟨rfl, rfl, rfl, by decide +kernel, rfl, by decide +kernel, by decide +kernel⟩
abbrev s_Thing_history : Stmt := clsM (top 17) 1
abbrev N_Thing_history : List Str := ["self"]
theorem sc_Thing_history : FnScope N_Thing_history ["self"] (defScope s_Thing_history) := ⟨rfl, rfl, rfl, by decide +kernel, rfl, by decide +kernel, by decide +kernel⟩
abbrev s__law_cell : Stmt := top 21
abbrev N__law_cell : List Str := ["_law_script", "_law_k"]
theorem sc__law_cell : FnScope N__law_cell ["_law_script", "_law_k"] (defScope s__law_cell) := ⟨rfl, rfl, rfl, by decide +kernel, rfl, by decide +kernel, by decide +kernel⟩
abbrev s__law_draws : Stmt := top 22
abbrev N__law_draws : List Str := ["_law_cell_here", "_law_many", "_law_draws_here", "_law_rest", "_law_k", "_law_mixed"]
theorem sc__law_draws : FnScope N__law_draws ["_law_cell_here", "_law_many"] (defScope s__law_draws) := ⟨rfl, rfl, rfl, by decide +kernel, rfl, by decide +kernel, by decide +kernel⟩
abbrev s__law_defines : Stmt := top 23
abbrev N__law_defines : List Str := ["_law_old", "_law_shut", "_law_new"]
theorem sc__law_defines : FnScope N__law_defines ["_law_old", "_law_shut", "_law_new"] (defScope s__law_defines) := ⟨rfl, rfl, rfl, by decide +kernel, rfl, by decide +kernel, by decide +kernel⟩
abbrev s__law_act : Stmt := top 24
abbrev N__law_act : List Str := ["_law_field", "_law_shut", "_law_request", "_law_kind", "_law_new"]
theorem sc__law_act : FnScope N__law_act ["_law_field", "_law_shut", "_law_request"] (defScope s__law_act) := ⟨rfl, rfl, rfl, by decide +kernel, rfl, by decide +kernel, by decide +kernel⟩
abbrev s__law_spot : Stmt := top 25
abbrev N__law_spot : List Str := ["_law_draw", "_law_part", "_law_field"]
theorem sc__law_spot : FnScope N__law_spot ["_law_draw"] (defScope s__law_spot) := ⟨rfl, rfl, rfl, by decide +kernel, rfl, by decide +kernel, by decide +kernel⟩
abbrev s__law_is_same : Stmt := top 26
abbrev N__law_is_same : List Str := ["_law_got", "_law_due", "_law_k"]
theorem sc__law_is_same : FnScope N__law_is_same ["_law_got", "_law_due"] (defScope s__law_is_same) := ⟨rfl, rfl, rfl, by decide +kernel, rfl, by decide +kernel, by decide +kernel⟩
abbrev s__law_does : Stmt := top 27
abbrev N__law_does : List Str := ["_law_fields", "_law_closed", "_law_request", "_law_kind", "_law_field", "_law_done"]
theorem sc__law_does : FnScope N__law_does ["_law_fields", "_law_closed", "_law_request"] (defScope s__law_does) := ⟨rfl, rfl, rfl, by decide +kernel, rfl, by decide +kernel, by decide +kernel⟩
abbrev s__law_starts : Stmt := top 28
abbrev N__law_starts : List Str := ["_law_draws_here", "_law_rows", "_law_k", "_law_field", "_law_label"]
theorem sc__law_starts : FnScope N__law_starts ["_law_draws_here"] (defScope s__law_starts) := ⟨rfl, rfl, rfl, by decide +kernel, rfl, by decide +kernel, by decide +kernel⟩
abbrev s__law_is_refusal : Stmt := top 29
abbrev N__law_is_refusal : List Str := ["_law_e", "_law_request"]
theorem sc__law_is_refusal : FnScope N__law_is_refusal ["_law_e", "_law_request"] (defScope s__law_is_refusal) := ⟨rfl, rfl, rfl, by decide +kernel, rfl, by decide +kernel, by decide +kernel⟩
abbrev s__law_assigns : Stmt := top 30
abbrev N__law_assigns : List Str := ["_law_thing", "_law_label", "_law_value", "_law_e"]
theorem sc__law_assigns : FnScope N__law_assigns ["_law_thing", "_law_label", "_law_value"] (defScope s__law_assigns) := ⟨rfl, rfl, rfl, by decide +kernel, rfl, by decide +kernel, by decide +kernel⟩
abbrev s__law_looks : Stmt := top 31
abbrev N__law_looks : List Str := ["_law_thing", "_law_label", "_law_fields", "_law_closed", "_law_value", "_law_one"]
theorem sc__law_looks : FnScope N__law_looks ["_law_thing", "_law_label", "_law_fields", "_law_closed"] (defScope s__law_looks) := ⟨rfl, rfl, rfl, by decide +kernel, rfl, by decide +kernel, by decide +kernel⟩
abbrev s_law : Stmt := top 32
abbrev N_law : List Str := ["_law_script", "_law_rows", "_law_thing", "_law_fields", "_law_row", "_law_closed", "_law_told", "_law_draw", "_law_label", "_law_request", "_law_due"]
theorem sc_law : FnScope N_law ["_law_script"] (defScope s_law) := ⟨rfl, rfl, rfl, by decide +kernel, rfl, by decide +kernel, by decide +kernel⟩
/-! ### the mirrors -/
def G__reading : FL.Env → Option Out :=
    (sSeq (sIf (tB blD (e2 eqD (eVar 2) (eC (.str "look"))))
      (sSeq (sRet (eVar 0))
    sNil)
      sNil)
    (sSeq (sIf (tB blD (e2 eqD (eVar 2) (eC (.str "has"))))
      (sSeq (sRet (e2 isntD (eVar 0) (eC .non)))
    sNil)
      sNil)
    (sSeq (sIf (tB blD (e2 eqD (eVar 2) (eC (.str "get"))))
      (sSeq (sRet (eIf (tB blD (e2 isD (eVar 0) (eC .non))) (eC .non) (e2 ixD (eVar 0) (eC (.int 0)))))
    sNil)
      sNil)
    (sSeq (sIf (tB blD (e2 eqD (eVar 2) (eC (.str "names"))))
      (sSeq (sRet (eIf (tB blD (e2 isD (eVar 0) (eC .non))) (eL tupD aNil) (eC (.tup [(.str "a")]))))
    sNil)
      sNil)
    (sForget [0, 2] (sSeq (sRet (eVar 1))
    sNil))))))
def m__reading : List D → Option D := runD false 3 3 G__reading
def G__can_replace : FL.Env → Option Out :=
    (sSeq (sRet (eOr (e2 ixD (eVar 0) (eC (.int 2))) (eAnd (e1 notD (e2 ixD (eVar 1) (eC (.int 2)))) (eOr (e2 ixD (eVar 0) (eC (.int 1))) (e2 eqD (eVar 0) (eVar 1))))))
    sNil)
def m__can_replace : List D → Option D := runD false 2 2 G__can_replace
def G__is_done : FL.Env → Option Out :=
    (sSeq (sSet 3 (e2 ixD (eVar 2) (eC (.int 0))))
    (sSeq (sIf (tB blD (e2 eqD (eVar 3) (eC (.str "take"))))
      (sSeq (sRet (eOr (e2 isD (eVar 0) (eC .non)) (e2 ixD (eVar 0) (eC (.int 2)))))
    sNil)
      sNil)
    (sSeq (sIf (tB blD (e2 isD (eVar 0) (eC .non)))
      (sSeq (sRet (e1 notD (eVar 1)))
    sNil)
      sNil)
    (sForget [1] (sSeq (sIf (tB blD (e2 eqD (eVar 3) (eC (.str "set"))))
      (sSeq (sRet (e2 ixD (eVar 0) (eC (.int 1))))
    sNil)
      sNil)
    (sForget [3] (sSeq (sRet (eL (mL 2 m__can_replace) (aCons (eVar 0) (aCons (eSl slD (eVar 2) (pYes (eC (.int 2))) pNo) aNil))))
    sNil)))))))
def m__is_done : List D → Option D := runD false 4 3 G__is_done
def G__field_after : FL.Env → Option Out :=
    (sSeq (sSet 2 (e2 ixD (eVar 1) (eC (.int 0))))
    (sSeq (sIf (tB blD (e2 eqD (eVar 2) (eC (.str "take"))))
      (sSeq (sRet (eC .non))
    sNil)
      sNil)
    (sSeq (sIf (tB blD (e2 eqD (eVar 2) (eC (.str "define"))))
      (sSeq (sRet (eSl slD (eVar 1) (pYes (eC (.int 2))) pNo))
    sNil)
      sNil)
    (sForget [2] (sSeq (sIf (tB blD (e2 isD (eVar 0) (eC .non)))
      (sSeq (sRet (eL tupD (aCons (e2 ixD (eVar 1) (eC (.int 2))) (aCons (eC (.bl true)) (aCons (eC (.bl true)) aNil)))))
    sNil)
      sNil)
    (sSeq (sRet (eL tupD (aCons (e2 ixD (eVar 1) (eC (.int 2))) (aCons (e2 ixD (eVar 0) (eC (.int 1))) (aCons (e2 ixD (eVar 0) (eC (.int 2))) aNil)))))
    sNil))))))
def m__field_after : List D → Option D := runD false 3 2 G__field_after
def G_act : FL.Env → Option Out :=
    (sSeq (sAsg (gTup (gCons (gSet 2) (gCons (gSet 3) gNil))) (eVar 0))
    (sSeq (sSet 4 (e2 ixD (eVar 1) (eC (.int 0))))
    (sSeq (sIf (tB blD (e2 inD (eVar 4) (eC (.tup [(.str "set"), (.str "define"), (.str "take")]))))
      (sSeq (sIf (tNot (tB truD (eL (mL 3 m__is_done) (aCons (eVar 2) (aCons (eVar 3) (aCons (eVar 1) aNil))))))
      (sSeq (sRet (eL tupD (aCons (eC (.bl false)) (aCons (eVar 0) aNil))))
    sNil)
      sNil)
    (sSeq (sRet (eL tupD (aCons (eC (.bl true)) (aCons (eL tupD (aCons (eL (mL 2 m__field_after) (aCons (eVar 2) (aCons (eVar 1) aNil))) (aCons (eVar 3) aNil))) aNil))))
    sNil))
      sNil)
    (sForget [1] (sSeq (sIf (tB blD (e2 eqD (eVar 4) (eC (.str "shut"))))
      (sSeq (sRet (eL tupD (aCons (eC (.bl true)) (aCons (eL tupD (aCons (eVar 2) (aCons (eC (.bl true)) aNil))) aNil))))
    sNil)
      sNil)
    (sSeq (sRet (eL tupD (aCons (eL (mL 3 m__reading) (aCons (eVar 2) (aCons (eVar 3) (aCons (eVar 4) aNil)))) (aCons (eVar 0) aNil))))
    sNil))))))
def m_act : List D → Option D := runD false 5 2 G_act
def G_Recorded___init__ : FL.Env → List Ob → Option MOut :=
    (mSeq (mPutA "Thing" "_history" (eVar 0) (mLst (eL lstD aNil)))
    mNil)
def m_Recorded___init__ : List D → List Ob → Option (D × List Ob) := runM 1 1 G_Recorded___init__
def G__with_field : FL.Env → Option Out :=
    (sSeq (sIf (tB blD (e2 isD (eVar 2) (eC .non)))
      (sSeq (sRet (eDcK 0 [3] (gSet 3) (tB blD (e2 neD (eVar 3) (eVar 1))) (eVar 3) (e2 dgetD (eVar 0) (eVar 3))))
    sNil)
      sNil)
    (sSeq (sRet (eStarD (eVar 0) (eVar 1) (eVar 2)))
    sNil))
def m__with_field : List D → Option D := runD false 4 3 G__with_field
def G_Thing___init__ : FL.Env → List Ob → Option MOut :=
    (mSeq (mEx (mCall 1 m_Recorded___init__ (qCons (qPure (eVar 0)) qNil)))
    (mSeq (mPutA "Thing" "_fields" (eVar 0) (qPure (eDc [2, 3, 4, 5] (iSeq isSeq (eVar 1)) (gTup (gCons (gSet 2) (gCons (gSet 3) (gCons (gSet 4) (gCons (gSet 5) gNil))))) tYesE (eVar 2) (eL tupD (aCons (eVar 3) (aCons (eVar 4) (aCons (eVar 5) aNil)))))))
    (mForget [1] (mSeq (mPutA "Thing" "_shut" (eVar 0) (qPure (eC (.bl false))))
    mNil))))
def m_Thing___init__ : List D → List Ob → Option (D × List Ob) := runM 6 2 G_Thing___init__
def G_Thing__done : FL.Env → List Ob → Option MOut :=
    (mSeq (mIf (qTp (tB blD (e2 eqD (eVar 1) (eC (.tup [(.str "names")])))))
      (mSeq (mRet (qLk (eTupD (e1 (fldD "Thing" "_fields") (eVar 0)))))
    mNil)
      mNil)
    (mSeq (mPure (sSet 2 (eIf (tB blD (e2 gtD (eL lenD (aCons (eVar 1) aNil)) (eC (.int 1)))) (e2 ixD (eVar 1) (eC (.int 1))) (eC .non))))
    (mSeq (mAsg (gTup (gCons (gSet 3) (gCons (gTup (gCons (gSet 4) (gCons (gSet 5) gNil))) gNil))) (qLk (eL (mL 2 m_act) (aCons (eL tupD (aCons (e2 dgetND (e1 (fldD "Thing" "_fields") (eVar 0)) (eVar 2)) (aCons (e1 (fldD "Thing" "_shut") (eVar 0)) aNil))) (aCons (eVar 1) aNil)))))
    (mForget [1] (mSeq (mPutA "Thing" "_shut" (eVar 0) (qPure (eVar 5)))
    (mForget [5] (mSeq (mIf (qTp (tB blD (e2 isntD (eVar 2) (eC .non))))
      (mSeq (mPutA "Thing" "_fields" (eVar 0) (mCall 3 (pMir m__with_field) (qCons (mFld "Thing" "_fields" (qPure (eVar 0))) (qCons (qPure (eVar 2)) (qCons (qPure (eVar 4)) qNil)))))
    mNil)
      mNil)
    (mForget [0, 2, 4] (mSeq (mPure (sRet (eVar 3)))
    mNil)))))))))
def m_Thing__done : List D → List Ob → Option (D × List Ob) := runM 6 2 G_Thing__done
def G_Thing__keep : FL.Env → List Ob → Option MOut :=
    (mSeq (mMutE (mFld "Thing" "_history" (qPure (eVar 0))) appendF (qPureA (aCons (eVar 1) aNil)))
    mNil)
def m_Thing__keep : List D → List Ob → Option (D × List Ob) := runM 2 2 G_Thing__keep
def G_Thing_ask : FL.Env → List Ob → Option MOut :=
    (mSeq (mSet 2 (mMe "Thing" "_done" 2 m_Thing__done (eVar 0) (qPureA (aCons (eVar 1) aNil))))
    (mSeq (mEx (mMe "Thing" "_keep" 2 m_Thing__keep (eVar 0) (qPureA (aCons (eL tupD (aCons (eVar 1) (aCons (eVar 2) aNil))) aNil))))
    (mForget [0, 1] (mSeq (mPure (sRet (eVar 2)))
    mNil))))
def m_Thing_ask : List D → List Ob → Option (D × List Ob) := runM 3 2 G_Thing_ask
def G_Thing___getitem__ : FL.Env → Option Out :=
    (sSeq (sSet 2 (e2 dgetND (e1 (fldD "Thing" "_fields") (eVar 0)) (eVar 1)))
    (sForget [0, 1] (sSeq (sRet (eIf (tB blD (e2 isD (eVar 2) (eC .non))) (eC .non) (e2 ixD (eVar 2) (eC (.int 0)))))
    sNil)))
def m_Thing___getitem__ : List D → Option D := runD false 3 2 G_Thing___getitem__
def G_Thing___setitem__ : FL.Env → List Ob → Option MOut :=
    (mSeq (mPure (sSet 3 (eL tupD (aCons (eC (.str "set")) (aCons (eVar 1) (aCons (eVar 2) aNil))))))
    (mForget [1, 2] (mSeq (mIf (qNot (qBl (mMe "Thing" "ask" 2 m_Thing_ask (eVar 0) (qPureA (aCons (eVar 3) aNil)))))
      (mSeq (mPure (fun _ => none))
    mNil)
      mNil)
    mNil)))
def m_Thing___setitem__ : List D → List Ob → Option (D × List Ob) := runM 4 3 G_Thing___setitem__
def GMX_Thing___setitem__ : FL.Env → List Ob → Option (XM × FL.Env × List Ob) :=
    (xmSeq (mPure (sSet 3 (eL tupD (aCons (eC (.str "set")) (aCons (eVar 1) (aCons (eVar 2) aNil)))))) xmNo
    (xmIf (qNot (qBl (mMe "Thing" "ask" 2 m_Thing_ask (eVar 0) (qPureA (aCons (eVar 3) aNil))))) (xmPure (xHere (xRaise "Refused" "deed" (eVar 3)))) xmNo))
def mmx_Thing___setitem__ : List D → List Ob → Option (XM × List Ob) := runMX 4 3 GMX_Thing___setitem__
def G_Thing___contains__ : FL.Env → Option Out :=
    (sSeq (sRet (e2 (dinD false) (eVar 1) (e1 (fldD "Thing" "_fields") (eVar 0))))
    sNil)
def m_Thing___contains__ : List D → Option D := runD false 2 2 G_Thing___contains__
def G_Thing___bool__ : FL.Env → Option Out :=
    (sSeq (sRet (e2 isD (e1 (fldD "Thing" "_shut") (eVar 0)) (eC (.bl true))))
    sNil)
def m_Thing___bool__ : List D → Option D := runD false 1 1 G_Thing___bool__
def G_Thing_is_shut : FL.Env → Option Out :=
    (sSeq (sRet (e1 (fldD "Thing" "_shut") (eVar 0)))
    sNil)
def m_Thing_is_shut : List D → Option D := runD false 1 1 G_Thing_is_shut
def G_Thing_history : FL.Env → Option Out :=
    (sSeq (sRet (eL listOf (aCons (e1 (fldD "Thing" "_history") (eVar 0)) aNil)))
    sNil)
def m_Thing_history : List D → Option D := runD false 1 1 G_Thing_history
def G__law_cell : FL.Env → Option Out :=
    (sSeq (sIf (tB blD (e2 ltD (eVar 1) (eL lenD (aCons (eVar 0) aNil))))
      (sSeq (sRet (eL intD (aCons (e2 ixD (eVar 0) (eVar 1)) aNil)))
    sNil)
      sNil)
    (sForget [0, 1] (sSeq (sRet (eC (.int 0)))
    sNil)))
def m__law_cell : List D → Option D := runD false 2 2 G__law_cell
def L__law_draws_0 : FL.Env → Option Out :=
    (sSeq (sSet 5 (e2 modD (eL intD (aCons (e2 addD (e2 addD (eVar 0) (e2 mulD (eC (.int 7919)) (eVar 4))) (eC (.int 13))) aNil)) (eC (.int 2147483647))))
    (sSeq (sSet 5 (e2 modD (eL intD (aCons (e2 addD (e2 mulD (eVar 5) (eVar 5)) (e2 mulD (eC (.int 48271)) (eVar 4))) aNil)) (eC (.int 2147483629))))
    (sSeq (sSet 5 (e2 modD (eL intD (aCons (e2 addD (e2 mulD (eVar 5) (eC (.int 69621))) (e2 fdivD (eVar 5) (eC (.int 1009)))) aNil)) (eC (.int 1000003))))
    (sSeq (sIf (tB blD (e2 gtD (eVar 3) (eC (.int 0))))
      (sSeq (sSet 5 (e2 modD (eL intD (aCons (eVar 3) aNil)) (eC (.int 1000003))))
    (sSeq (sSet 3 (e2 fdivD (eVar 3) (eC (.int 1000003))))
    sNil))
      sNil)
    (sSeq (sMut 2 appendF (aCons (eVar 5) aNil))
    sNil)))))
def G__law_draws : FL.Env → Option Out :=
    (sSeq (sSet 2 (eL lstD aNil))
    (sSeq (sSet 3 (eC (.int 0)))
    (sSeq (sIf (tB blD (e2 geD (eVar 0) (e2 powD (eC (.int 10)) (eC (.int 18)))))
      (sSeq (sSet 3 (e2 subD (eVar 0) (e2 powD (eC (.int 10)) (eC (.int 18)))))
    sNil)
      sNil)
    (sSeq (sFor (iRng1 (aCons (eVar 1) aNil)) (gSet 4) L__law_draws_0)
    (sForget [0, 1, 3, 4, 5] (sSeq (sRet (eVar 2))
    sNil))))))
def m__law_draws : List D → Option D := runD false 6 2 G__law_draws
def G__law_defines : FL.Env → Option Out :=
    (sSeq (sIf (tB blD (e2 isD (eVar 0) (eC .non)))
      (sSeq (sRet (e1 notD (eVar 1)))
    sNil)
      sNil)
    (sForget [1] (sSeq (sIf (tB truD (e2 ixD (eVar 0) (eC (.int 2))))
      (sSeq (sRet (eC (.bl true)))
    sNil)
      sNil)
    (sSeq (sRet (eAnd (e1 notD (e2 ixD (eVar 2) (eC (.int 2)))) (eOr (e2 ixD (eVar 0) (eC (.int 1))) (e2 eqD (eVar 0) (eVar 2)))))
    sNil))))
def m__law_defines : List D → Option D := runD false 3 3 G__law_defines
def G__law_act : FL.Env → Option Out :=
    (sSeq (sSet 3 (e2 ixD (eVar 2) (eC (.int 0))))
    (sSeq (sIf (tB blD (e2 eqD (eVar 3) (eC (.str "look"))))
      (sSeq (sRet (eL lstD (aCons (eVar 0) (aCons (eVar 0) (aCons (eVar 1) aNil)))))
    sNil)
      sNil)
    (sSeq (sIf (tB blD (e2 eqD (eVar 3) (eC (.str "has"))))
      (sSeq (sRet (eL lstD (aCons (e2 isntD (eVar 0) (eC .non)) (aCons (eVar 0) (aCons (eVar 1) aNil)))))
    sNil)
      sNil)
    (sSeq (sIf (tB blD (e2 eqD (eVar 3) (eC (.str "get"))))
      (sSeq (sIf (tB blD (e2 isD (eVar 0) (eC .non)))
      (sSeq (sRet (eL lstD (aCons (eC .non) (aCons (eVar 0) (aCons (eVar 1) aNil)))))
    sNil)
      sNil)
    (sSeq (sRet (eL lstD (aCons (e2 ixD (eVar 0) (eC (.int 0))) (aCons (eVar 0) (aCons (eVar 1) aNil)))))
    sNil))
      sNil)
    (sSeq (sIf (tB blD (e2 eqD (eVar 3) (eC (.str "shut"))))
      (sSeq (sRet (eL lstD (aCons (eC (.bl true)) (aCons (eVar 0) (aCons (eC (.bl true)) aNil)))))
    sNil)
      sNil)
    (sSeq (sIf (tB blD (e2 eqD (eVar 3) (eC (.str "isshut"))))
      (sSeq (sRet (eL lstD (aCons (eVar 1) (aCons (eVar 0) (aCons (eVar 1) aNil)))))
    sNil)
      sNil)
    (sSeq (sIf (tB blD (e2 eqD (eVar 3) (eC (.str "take"))))
      (sSeq (sIf (tAnd (tB blD (e2 isntD (eVar 0) (eC .non))) (tNot (tB truD (e2 ixD (eVar 0) (eC (.int 2))))))
      (sSeq (sRet (eL lstD (aCons (eC (.bl false)) (aCons (eVar 0) (aCons (eVar 1) aNil)))))
    sNil)
      sNil)
    (sSeq (sRet (eL lstD (aCons (eC (.bl true)) (aCons (eC .non) (aCons (eVar 1) aNil)))))
    sNil))
      sNil)
    (sSeq (sIf (tB blD (e2 eqD (eVar 3) (eC (.str "set"))))
      (sSeq (sIf (tAnd (tB blD (e2 isD (eVar 0) (eC .non))) (tNot (tB truD (eVar 1))))
      (sSeq (sRet (eL lstD (aCons (eC (.bl true)) (aCons (eL tupD (aCons (e2 ixD (eVar 2) (eC (.int 2))) (aCons (eC (.bl true)) (aCons (eC (.bl true)) aNil)))) (aCons (eVar 1) aNil)))))
    sNil)
      sNil)
    (sSeq (sIf (tAnd (tB blD (e2 isntD (eVar 0) (eC .non))) (tB truD (e2 ixD (eVar 0) (eC (.int 1)))))
      (sSeq (sRet (eL lstD (aCons (eC (.bl true)) (aCons (eL tupD (aCons (e2 ixD (eVar 2) (eC (.int 2))) (aCons (eC (.bl true)) (aCons (e2 ixD (eVar 0) (eC (.int 2))) aNil)))) (aCons (eVar 1) aNil)))))
    sNil)
      sNil)
    (sSeq (sRet (eL lstD (aCons (eC (.bl false)) (aCons (eVar 0) (aCons (eVar 1) aNil)))))
    sNil)))
      sNil)
    (sForget [3] (sSeq (sSet 4 (eL tupD (aCons (e2 ixD (eVar 2) (eC (.int 2))) (aCons (e2 ixD (eVar 2) (eC (.int 3))) (aCons (e2 ixD (eVar 2) (eC (.int 4))) aNil)))))
    (sForget [2] (sSeq (sIf (tB truD (eL (mL 3 m__law_defines) (aCons (eVar 0) (aCons (eVar 1) (aCons (eVar 4) aNil)))))
      (sSeq (sRet (eL lstD (aCons (eC (.bl true)) (aCons (eVar 4) (aCons (eVar 1) aNil)))))
    sNil)
      sNil)
    (sForget [4] (sSeq (sRet (eL lstD (aCons (eC (.bl false)) (aCons (eVar 0) (aCons (eVar 1) aNil)))))
    sNil))))))))))))))
def m__law_act : List D → Option D := runD true 5 3 G__law_act
def G__law_spot : FL.Env → Option Out :=
    (sSeq (sSet 1 (e2 modD (eL intD (aCons (eVar 0) aNil)) (eC (.int 200))))
    (sForget [0] (sSeq (sSet 2 (eL tupD (aCons (e2 modD (e2 fdivD (eVar 1) (eC (.int 2))) (eC (.int 10))) (aCons (e2 eqD (e2 modD (e2 fdivD (eVar 1) (eC (.int 20))) (eC (.int 2))) (eC (.int 1))) (aCons (e2 eqD (e2 modD (e2 fdivD (eVar 1) (eC (.int 40))) (eC (.int 2))) (eC (.int 1))) aNil)))))
    (sSeq (sIf (tB blD (e2 eqD (e2 fdivD (eVar 1) (eC (.int 80))) (eC (.int 2))))
      (sSeq (sSet 2 (eC .non))
    sNil)
      sNil)
    (sSeq (sRet (eL tupD (aCons (eVar 2) (aCons (e2 eqD (e2 modD (eVar 1) (eC (.int 2))) (eC (.int 1))) aNil))))
    sNil)))))
def m__law_spot : List D → Option D := runD false 3 1 G__law_spot
def G__law_is_same (r : List D → Option D) : FL.Env → Option Out :=
    (sSeq (sIf (tOr (tB truD (e1 (isiD "tuple") (eVar 1))) (tB truD (e1 (isiD "list") (eVar 1))))
      (sSeq (sIf (tAnd (tB truD (e1 (isiD "tuple") (eVar 1))) (tNot (tB truD (e1 (isiD "tuple") (eVar 0)))))
      (sSeq (sRet (eC (.bl false)))
    sNil)
      sNil)
    (sSeq (sIf (tAnd (tB truD (e1 (isiD "list") (eVar 1))) (tNot (tB truD (e1 (isiD "list") (eVar 0)))))
      (sSeq (sRet (eC (.bl false)))
    sNil)
      sNil)
    (sSeq (sIf (tB blD (e2 neD (eL lenD (aCons (eVar 0) aNil)) (eL lenD (aCons (eVar 1) aNil))))
      (sSeq (sRet (eC (.bl false)))
    sNil)
      sNil)
    (sSeq (sFor (iRng1 (aCons (eL lenD (aCons (eVar 1) aNil)) aNil)) (gSet 2)
      (sSeq (sIf (tNot (tB truD (eL (mL 2 r) (aCons (e2 ixD (eVar 0) (eVar 2)) (aCons (e2 ixD (eVar 1) (eVar 2)) aNil)))))
      (sSeq (sRet (eC (.bl false)))
    sNil)
      sNil)
    sNil))
    (sSeq (sRet (eC (.bl true)))
    sNil)))))
      sNil)
    (sForget [2] (sSeq (sIf (tB blD (e2 isD (eVar 1) (eC .non)))
      (sSeq (sRet (e2 isD (eVar 0) (eC .non)))
    sNil)
      sNil)
    (sSeq (sIf (tB truD (e1 (isiD "bool") (eVar 1)))
      (sSeq (sRet (eAnd (e1 (isiD "bool") (eVar 0)) (e2 eqD (eVar 0) (eVar 1))))
    sNil)
      sNil)
    (sSeq (sIf (tB truD (e1 (isiD "int") (eVar 1)))
      (sSeq (sRet (eAnd (e1 (isiD "int") (eVar 0)) (eAnd (e1 notD (e1 (isiD "bool") (eVar 0))) (e2 eqD (eVar 0) (eVar 1)))))
    sNil)
      sNil)
    (sSeq (sRet (eAnd (e1 (isiD "str") (eVar 0)) (e2 eqD (eVar 0) (eVar 1))))
    sNil))))))
def m__law_is_same : Nat → List D → Option D
  | 0 => fun _ => none
  | n + 1 => runD false 3 2 (G__law_is_same (m__law_is_same n))
def G__law_does : FL.Env → List Ob → Option MOut :=
    (mSeq (mPure (sSet 3 (e2 ixD (eVar 2) (eC (.int 0)))))
    (mSeq (mIf (qTp (tB blD (e2 eqD (eVar 3) (eC (.str "names")))))
      (mSeq (mRet (qLk (eL tupOf (aCons (eLstD (eVar 0)) aNil))))
    mNil)
      mNil)
    (mSeq (mPure (sSet 4 (eC .non)))
    (mSeq (mIf (qTp (tB blD (e2 ninD (eVar 3) (eL lstD (aK [(.str "shut"), (.str "isshut")])))))
      (mSeq (mSet 4 (qLk (e2 dgetND (eVar 0) (e2 ixD (eVar 2) (eC (.int 1))))))
    mNil)
      mNil)
    (mForget [3] (mSeq (mSet 5 (qLkN (eL (mL 3 m__law_act) (aCons (eVar 4) (aCons (e2 ixD (eVar 1) (eC (.int 0))) (aCons (eVar 2) aNil))))))
    (mSeq (mPutI 1 (eC (.int 0)) (qPure (e2 ixD (eVar 5) (eC (.int 2)))))
    (mForget [1] (mSeq (mIf (qTp (tAnd (tB blD (e2 isntD (e2 ixD (eVar 5) (eC (.int 1))) (eC .non))) (tB blD (e2 neD (eVar 4) (e2 ixD (eVar 5) (eC (.int 1)))))))
      (mSeq (mPutD 0 (e2 ixD (eVar 2) (eC (.int 1))) (qPure (e2 ixD (eVar 5) (eC (.int 1)))))
    mNil)
      mNil)
    (mSeq (mIf (qTp (tAnd (tB blD (e2 isD (e2 ixD (eVar 5) (eC (.int 1))) (eC .non))) (tB blD (e2 isntD (eVar 4) (eC .non)))))
      (mSeq (mPopD 0 (e2 ixD (eVar 2) (eC (.int 1))))
    mNil)
      mNil)
    (mForget [0, 2, 4] (mSeq (mPure (sRet (e2 ixD (eVar 5) (eC (.int 0)))))
    mNil))))))))))))
def m__law_does : List D → List Ob → Option (D × List Ob) := runM 6 3 G__law_does
def L__law_starts_0 : FL.Env → Option Out :=
    (sSeq (sSet 3 (e2 ixD (eL (mL 1 m__law_spot) (aCons (e2 ixD (eVar 0) (e2 addD (eC (.int 1)) (eVar 2))) aNil)) (eC (.int 0))))
    (sSeq (sSet 4 (e2 ixD (eC (.str "abcdefgh")) (e2 modD (eL intD (aCons (e2 addD (e2 fdivD (e2 ixD (eVar 0) (eC (.int 0))) (eC (.int 9))) (e2 mulD (eVar 2) (e2 ixD (eL lstD (aK [(.int 1), (.int 3), (.int 5), (.int 7)])) (e2 modD (eL intD (aCons (e2 fdivD (e2 ixD (eVar 0) (eC (.int 0))) (eC (.int 72))) aNil)) (eC (.int 4)))))) aNil)) (eC (.int 8)))))
    (sSeq (sIf (tB blD (e2 isntD (eVar 3) (eC .non)))
      (sSeq (sMut 1 appendF (aCons (eL tupD (aCons (eVar 4) (aCons (e2 ixD (eVar 3) (eC (.int 0))) (aCons (e2 ixD (eVar 3) (eC (.int 1))) (aCons (e2 ixD (eVar 3) (eC (.int 2))) aNil))))) aNil))
    sNil)
      sNil)
    sNil)))
def G__law_starts : FL.Env → Option Out :=
    (sSeq (sSet 1 (eL lstD aNil))
    (sSeq (sFor (iRng1 (aCons (e2 modD (eL intD (aCons (e2 ixD (eVar 0) (eC (.int 0))) aNil)) (eC (.int 9))) aNil)) (gSet 2) L__law_starts_0)
    (sForget [0, 2, 3, 4] (sSeq (sRet (eVar 1))
    sNil))))
def m__law_starts : List D → Option D := runD false 5 1 G__law_starts
def GE__law_is_refusal : List D → FL.Env → Option D := fun xd =>
    (hIf (tOr (tNot (tB blD (fun _ => some (.bl true)))) (tOr (tNot (tB blD (fun _ => some (.bl true)))) (tOr (tB blD (fun _ => some (.bl false))) (tB blD (fun _ => some (.bl false)))))) (eC (.str "wrong"))
      (hIf (tOr (tB blD (fun _ => some (.bl false))) (tOr (tB blD (fun _ => some (.bl false))) (tB blD (fun _ => some (.bl false))))) (eC (.str "wrong"))
      (e2 ixD (eL lstD (aK [(.str "wrong"), (.str "refused")])) (eL intD (aCons (eL (mL 2 (m__law_is_same 6)) (aCons (fun _ => (List.zip (["deed"] : List Str) xd).lookup ("deed" : Str)) (aCons (eVar 1) aNil))) aNil)))))
def me__law_is_refusal : List D → List D → Option D := runHE 2 2 GE__law_is_refusal
def G__law_assigns : FL.Env → List Ob → Option MOut :=
    (mSeq (mTryX 3 "Refused" ["deed"] (mSeq (mSetOwn "Thing" m_Thing___setitem__ (eVar 0) (eVar 1) (eVar 2))
    mNil)
      (xmSetOwn "Thing" mmx_Thing___setitem__ (eVar 0) (eVar 1) (eVar 2))
      (fun xd => (eHE 2 me__law_is_refusal xd (aCons (eL tupD (aCons (eC (.str "set")) (aCons (eVar 1) (aCons (eVar 2) aNil)))) aNil))))
    (mForget [0, 1, 2] (mSeq (mPure (sRet (eC (.str "done"))))
    mNil)))
def m__law_assigns : List D → List Ob → Option (D × List Ob) := runM 4 3 G__law_assigns
def G__law_looks : FL.Env → Option Out :=
    (sSeq (sSet 4 (eC .non))
    (sSeq (sIf (tB blD (e2 (dinD false) (eVar 1) (eVar 2)))
      (sSeq (sSet 4 (e2 ixD (e2 dgetD (eVar 2) (eVar 1)) (eC (.int 0))))
    sNil)
      sNil)
    (sSeq (sIf (tOr (tNot (tB truD (eL (mL 2 (m__law_is_same 6)) (aCons (e2 (ixI "Thing" m_Thing___getitem__) (eVar 0) (eVar 1)) (aCons (eVar 4) aNil))))) (tNot (tB truD (eL (mL 2 (m__law_is_same 6)) (aCons (e2 (inI "Thing" m_Thing___contains__ false) (eVar 1) (eVar 0)) (aCons (e2 (dinD false) (eVar 1) (eVar 2)) aNil))))))
      (sSeq (sRet (eC (.bl false)))
    sNil)
      sNil)
    (sForget [1, 4] (sSeq (sIf (tNot (tB truD (eL (mL 2 (m__law_is_same 6)) (aCons (eLcO 0 "Thing" "_fields" [5] (gSet 5) (eVar 5)) (aCons (eLstD (eVar 2)) aNil)))))
      (sSeq (sRet (eC (.bl false)))
    sNil)
      sNil)
    (sForget [2] (sSeq (sRet (eAnd (eL (mL 2 (m__law_is_same 6)) (aCons (eL (boolI "Thing" m_Thing___bool__) (aCons (eVar 0) aNil)) (aCons (e2 ixD (eVar 3) (eC (.int 0))) aNil))) (eL (mL 2 (m__law_is_same 6)) (aCons (eP "Thing" m_Thing_is_shut (eVar 0)) (aCons (e2 ixD (eVar 3) (eC (.int 0))) aNil)))))
    sNil)))))))
def m__law_looks : List D → Option D := runD false 6 4 G__law_looks
def L_law_0 : FL.Env → List Ob → Option MOut :=
    (mSeq (mPutD 3 (e2 ixD (eVar 4) (eC (.int 0))) (qPure (eL tupD (aCons (e2 ixD (eVar 4) (eC (.int 1))) (aCons (e2 ixD (eVar 4) (eC (.int 2))) (aCons (e2 ixD (eVar 4) (eC (.int 3))) aNil))))))
    mNil)
def L_law_1 : FL.Env → List Ob → Option MOut :=
    (mSeq (mPure (sSet 8 (e2 ixD (eC (.str "abcdefgh")) (e2 modD (eL intD (aCons (e2 fdivD (eVar 7) (eC (.int 8))) aNil)) (eC (.int 8))))))
    (mSeq (mIf (qTl (tNot (tB truD (eL (mL 4 m__law_looks) (aCons (eVar 2) (aCons (eVar 8) (aCons (eVar 3) (aCons (eVar 5) aNil))))))))
      (mSeq (mPure (sRet (eC (.bl false))))
    mNil)
      mNil)
    (mSeq (mIf (qTp (tB blD (e2 eqD (e2 modD (eL intD (aCons (e2 fdivD (eVar 7) (eC (.int 640))) aNil)) (eC (.int 20))) (eC (.int 1)))))
      (mSeq (mEx (mCall 3 m__law_does (qCons (qPure (eVar 3)) (qCons (qPure (eVar 5)) (qCons (qPure (eC (.tup [(.str "shut")]))) qNil)))))
    (mSeq (mMut 6 appendF (qPureA (aCons (eC (.tup [(.tup [(.str "shut")]), (.bl true)])) aNil)))
    (mSeq (mIf (qBl (qE2 isntD (mMe "Thing" "ask" 2 m_Thing_ask (eVar 2) (qPureA (aCons (eC (.tup [(.str "shut")])) aNil))) (eC (.bl true))))
      (mSeq (mPure (sRet (eC (.bl false))))
    mNil)
      mNil)
    mNil)))
      (mSeq (mPure (sSet 9 (eL tupD (aCons (eC (.str "set")) (aCons (eVar 8) (aCons (e2 modD (eL intD (aCons (e2 fdivD (eVar 7) (eC (.int 64))) aNil)) (eC (.int 10))) aNil))))))
    (mSeq (mSet 10 (mCall 3 m__law_does (qCons (qPure (eVar 3)) (qCons (qPure (eVar 5)) (qCons (qPure (eVar 9)) qNil)))))
    (mSeq (mMut 6 appendF (qPureA (aCons (eL tupD (aCons (eVar 9) (aCons (eVar 10) aNil))) aNil)))
    (mSeq (mIf (qBl (qE2 neD (mCall 3 m__law_assigns (qCons (qPure (eVar 2)) (qCons (qPure (eVar 8)) (qCons (qPure (e2 modD (eL intD (aCons (e2 fdivD (eVar 7) (eC (.int 64))) aNil)) (eC (.int 10)))) qNil)))) (e2 ixD (eL lstD (aK [(.str "refused"), (.str "done")])) (eL intD (aCons (eVar 10) aNil)))))
      (mSeq (mPure (sRet (eC (.bl false))))
    mNil)
      mNil)
    mNil)))))
    mNil)))
def G_law : FL.Env → List Ob → Option MOut :=
    (mSeq (mPure (sSet 1 (eL lstD aNil)))
    (mSeq (mSet 2 (mNewM "Thing" 1 m_Thing___init__ [(.tup [])] qNil))
    (mSeq (mIf (qTp (tB blD (e2 eqD (e2 modD (eL (mL 2 m__law_cell) (aCons (eVar 0) (aCons (eC (.int 0)) aNil))) (eC (.int 2))) (eC (.int 1)))))
      (mSeq (mPure (sSet 1 (eL (mL 1 m__law_starts) (aCons (eL (mL 2 m__law_draws) (aCons (e2 fdivD (eL (mL 2 m__law_cell) (aCons (eVar 0) (aCons (eC (.int 0)) aNil))) (eC (.int 2))) (aCons (eC (.int 9)) aNil))) aNil))))
    (mSeq (mSet 2 (mNewM "Thing" 1 m_Thing___init__ [] (qPureA (aCons (eVar 1) aNil))))
    mNil))
      mNil)
    (mSeq (mSet 3 (mDct (eC (.dct [] []))))
    (mSeq (mForM (jPure (iSeq isLst (eVar 1))) (gSet 4) L_law_0)
    (mForget [1, 4] (mSeq (mSet 5 (mLst (eL lstD (aCons (eC (.bl false)) aNil))))
    (mSeq (mSet 6 (mLst (eL lstD aNil)))
    (mSeq (mForM (jPure (iSeq isLst (eL (mL 2 m__law_draws) (aCons (eL (mL 2 m__law_cell) (aCons (eVar 0) (aCons (eC (.int 2)) aNil))) (aCons (e2 modD (eL (mL 2 m__law_cell) (aCons (eVar 0) (aCons (eC (.int 1)) aNil))) (eC (.int 31))) aNil))))) (gSet 7) L_law_1)
    (mForget [0, 7, 8, 9, 10] (mSeq (mRet (qLk (eAnd (eL (mL 4 m__law_looks) (aCons (eVar 2) (aCons (eC (.str "a")) (aCons (eVar 3) (aCons (eVar 5) aNil))))) (eL (mL 2 (m__law_is_same 6)) (aCons (eP "Thing" m_Thing_history (eVar 2)) (aCons (eVar 6) aNil))))))
    mNil)))))))))))
def m_law : List D → List Ob → Option (D × List Ob) := runM 11 1 G_law
/-! ### what the top has left -/
structure TX (P : Program) (w : World) (K : PySem.W.Frag) (mg : Str → Option Value) : Prop where
  c_Recorded : Cls K (He.ga K "Recorded")
  g_Recorded : mg "Recorded" = some (.ref (He.ga K "Recorded"))
  c_Thing : Cls K (He.ga K "Thing")
  g_Thing : mg "Thing" = some (.ref (He.ga K "Thing"))
  i_Thing : Mk K (He.ga K "Thing") (He.ma K (He.ga K "Thing") "__init__")
  n_Thing__fields : NoAttr K (He.ga K "Thing") "_fields"
  n_Thing__history : NoAttr K (He.ga K "Thing") "_history"
  n_Thing__shut : NoAttr K (He.ga K "Thing") "_shut"
  d__reading : DefAt K "_reading" s__reading (He.ga K "_reading")
  g__reading : mg "_reading" = some (.ref (He.ga K "_reading"))
  d__can_replace : DefAt K "_can_replace" s__can_replace (He.ga K "_can_replace")
  g__can_replace : mg "_can_replace" = some (.ref (He.ga K "_can_replace"))
  d__is_done : DefAt K "_is_done" s__is_done (He.ga K "_is_done")
  g__is_done : mg "_is_done" = some (.ref (He.ga K "_is_done"))
  d__field_after : DefAt K "_field_after" s__field_after (He.ga K "_field_after")
  g__field_after : mg "_field_after" = some (.ref (He.ga K "_field_after"))
  d_act : DefAt K "act" s_act (He.ga K "act")
  g_act : mg "act" = some (.ref (He.ga K "act"))
  d_Recorded___init__ : FnAt K "__init__" "Recorded.__init__" s_Recorded___init__ [] [] (He.fAd K ("Recorded", some "__init__"))
  d__with_field : DefAt K "_with_field" s__with_field (He.ga K "_with_field")
  g__with_field : mg "_with_field" = some (.ref (He.ga K "_with_field"))
  d_Thing___init__ : FnAt K "__init__" "Thing.__init__" s_Thing___init__ [V.ref (He.dflAt ("Thing", some "__init__") 0 K)] [] (He.fAd K ("Thing", some "__init__"))
  d_Thing__done : FnAt K "_done" "Thing._done" s_Thing__done [] [] (He.fAd K ("Thing", some "_done"))
  m_Thing__done : Meth K (He.ga K "Thing") "_done" (He.ma K (He.ga K "Thing") "_done")
  d_Thing__keep : FnAt K "_keep" "Recorded._keep" s_Thing__keep [] [] (He.fAd K ("Thing", some "_keep"))
  m_Thing__keep : Meth K (He.ga K "Thing") "_keep" (He.ma K (He.ga K "Thing") "_keep")
  d_Thing_ask : FnAt K "ask" "Thing.ask" s_Thing_ask [] [] (He.fAd K ("Thing", some "ask"))
  m_Thing_ask : Meth K (He.ga K "Thing") "ask" (He.ma K (He.ga K "Thing") "ask")
  d_Thing___getitem__ : FnAt K "__getitem__" "Thing.__getitem__" s_Thing___getitem__ [] [] (He.fAd K ("Thing", some "__getitem__"))
  m_Thing___getitem__ : Meth K (He.ga K "Thing") "__getitem__" (He.ma K (He.ga K "Thing") "__getitem__")
  d_Thing___setitem__ : FnAt K "__setitem__" "Thing.__setitem__" s_Thing___setitem__ [] [] (He.fAd K ("Thing", some "__setitem__"))
  m_Thing___setitem__ : Meth K (He.ga K "Thing") "__setitem__" (He.ma K (He.ga K "Thing") "__setitem__")
  d_Thing___contains__ : FnAt K "__contains__" "Thing.__contains__" s_Thing___contains__ [] [] (He.fAd K ("Thing", some "__contains__"))
  m_Thing___contains__ : Meth K (He.ga K "Thing") "__contains__" (He.ma K (He.ga K "Thing") "__contains__")
  d_Thing___iter__ : FnAt K "__iter__" "Thing.__iter__" s_Thing___iter__ [] [] (He.fAd K ("Thing", some "__iter__"))
  m_Thing___iter__ : Meth K (He.ga K "Thing") "__iter__" (He.ma K (He.ga K "Thing") "__iter__")
  d_Thing___bool__ : FnAt K "__bool__" "Thing.__bool__" s_Thing___bool__ [] [] (He.fAd K ("Thing", some "__bool__"))
  m_Thing___bool__ : Meth K (He.ga K "Thing") "__bool__" (He.ma K (He.ga K "Thing") "__bool__")
  d_Thing_is_shut : FnAt K "is_shut" "Thing.is_shut" s_Thing_is_shut [] [] (pAd K (He.ga K "Thing") "is_shut")
  d_Thing_history : FnAt K "history" "Recorded.history" s_Thing_history [] [] (pAd K (He.ga K "Thing") "history")
  d__law_cell : DefAt K "_law_cell" s__law_cell (He.ga K "_law_cell")
  g__law_cell : mg "_law_cell" = some (.ref (He.ga K "_law_cell"))
  d__law_draws : DefAt K "_law_draws" s__law_draws (He.ga K "_law_draws")
  g__law_draws : mg "_law_draws" = some (.ref (He.ga K "_law_draws"))
  d__law_defines : DefAt K "_law_defines" s__law_defines (He.ga K "_law_defines")
  g__law_defines : mg "_law_defines" = some (.ref (He.ga K "_law_defines"))
  d__law_act : DefAt K "_law_act" s__law_act (He.ga K "_law_act")
  g__law_act : mg "_law_act" = some (.ref (He.ga K "_law_act"))
  d__law_spot : DefAt K "_law_spot" s__law_spot (He.ga K "_law_spot")
  g__law_spot : mg "_law_spot" = some (.ref (He.ga K "_law_spot"))
  d__law_is_same : DefAt K "_law_is_same" s__law_is_same (He.ga K "_law_is_same")
  g__law_is_same : mg "_law_is_same" = some (.ref (He.ga K "_law_is_same"))
  d__law_does : DefAt K "_law_does" s__law_does (He.ga K "_law_does")
  g__law_does : mg "_law_does" = some (.ref (He.ga K "_law_does"))
  d__law_starts : DefAt K "_law_starts" s__law_starts (He.ga K "_law_starts")
  g__law_starts : mg "_law_starts" = some (.ref (He.ga K "_law_starts"))
  d__law_is_refusal : DefAt K "_law_is_refusal" s__law_is_refusal (He.ga K "_law_is_refusal")
  g__law_is_refusal : mg "_law_is_refusal" = some (.ref (He.ga K "_law_is_refusal"))
  d__law_assigns : DefAt K "_law_assigns" s__law_assigns (He.ga K "_law_assigns")
  g__law_assigns : mg "_law_assigns" = some (.ref (He.ga K "_law_assigns"))
  d__law_looks : DefAt K "_law_looks" s__law_looks (He.ga K "_law_looks")
  g__law_looks : mg "_law_looks" = some (.ref (He.ga K "_law_looks"))
  d_law : DefAt K "law" s_law (He.ga K "law")
  g_law : mg "law" = some (.ref (He.ga K "law"))
  z_ValueError : mg "ValueError" = none
  z_bool : mg "bool" = none
  z_int : mg "int" = none
  z_isinstance : mg "isinstance" = none
  z_iter : mg "iter" = none
  z_len : mg "len" = none
  z_list : mg "list" = none
  z_range : mg "range" = none
  z_str : mg "str" = none
  z_super : mg "super" = none
  z_tuple : mg "tuple" = none
  cf_Recorded___init__ : cfnB K "Recorded" "__init__" = true
  p_Thing_is_shut : propB K "Thing" "is_shut" = true
  p_Thing_history : propB K "Thing" "history" = true
  q_Thing : PySem.W.noSeq K (He.ga K "Thing") = true
  df_Thing_0 : ∀ φ H, Rp K φ H (.tup []) (V.ref (He.dflAt ("Thing", some "__init__") 0 K))
  gx_Refused : mg "Refused" = some (.ref (He.ga K "Refused"))
  gx_Lie : mg "Lie" = some (.ref (He.ga K "Lie"))
  gx_BadCheck : mg "BadCheck" = some (.ref (He.ga K "BadCheck"))
  gx_BadAnswer : mg "BadAnswer" = some (.ref (He.ga K "BadAnswer"))
  gx_Promise : mg "Promise" = some (.ref (He.ga K "Promise"))
  gx_Unfair : mg "Unfair" = some (.ref (He.ga K "Unfair"))
  gx_StandInError : mg "StandInError" = some (.ref (He.ga K "StandInError"))
  x_Refused : OneC P K (He.ga K "Refused") (He.fAd K ("Refused", some "__init__")) "deed" "deed" "refused: "
  ec_Refused : ExcC K (He.ga K "Refused") ∧ XfC K (He.ga K "Refused")
  xk_Refused_Refused : PySem.W.kitOne K (.ref (He.ga K "Refused")) (.ref (He.ga K "Refused")) = some true
  xt_Refused_ValueError : PySem.W.kitOne K (.ref (He.ga K "Refused")) (.type "ValueError") = some true
  xk_Refused_Lie : PySem.W.kitOne K (.ref (He.ga K "Refused")) (.ref (He.ga K "Lie")) = some false
  xk_Refused_BadCheck : PySem.W.kitOne K (.ref (He.ga K "Refused")) (.ref (He.ga K "BadCheck")) = some false
  xk_Refused_BadAnswer : PySem.W.kitOne K (.ref (He.ga K "Refused")) (.ref (He.ga K "BadAnswer")) = some false
  xk_Refused_Promise : PySem.W.kitOne K (.ref (He.ga K "Refused")) (.ref (He.ga K "Promise")) = some false
  xk_Refused_Unfair : PySem.W.kitOne K (.ref (He.ga K "Refused")) (.ref (He.ga K "Unfair")) = some false
  xm_Refused_StandInError : PySem.W.exmOne K (.ref (He.ga K "Refused")) (.ref (He.ga K "StandInError")) = some true
section
variable {P : Program} {w : World} [WW w] {K : PySem.W.Frag} {mg : Str → Option Value} {base : Heap}
theorem cal__reading (T : TX P w K mg) : CalK P w K mg base 1 "_reading" false 3 m__reading := calK_of (ps := ["field", "shut", "kind"]) (N := N__reading) (T.d__reading) T.g__reading sc__reading rfl rfl (fun _ _ _ _ _ _ us hl => match us, hl with | [_, _, _], _ => rfl) [] (fun cdv A outer s H E hr =>
    (fss_cons (fs_if (O' := []) (ft_cmp (op_eqX (u64 hr)) o_eq (fb_var (i := 2) rfl (by walk_at "VIS")) (fb_of fe_str) (nomark _))
      (fss_cons (fs_ret (fe_var (i := 0) rfl (by walk_at "VIS") (by decide)))
    fss_nil)
      (fss_to fss_nil (by decide)))
    (fss_cons (fs_if (O' := []) (ft_cmp (op_eqX (u64 hr)) o_eq (fb_var (i := 2) rfl (by walk_at "VIS")) (fb_of fe_str) (nomark _))
      (fss_cons (fs_ret (fe_cmp op_isntX o_isnt (fb_var (i := 0) rfl (by walk_at "VIS")) (fb_of fe_non) (nomark _)))
    fss_nil)
      (fss_to fss_nil (by decide)))
    (fss_cons (fs_if (O' := []) (ft_cmp (op_eqX (u64 hr)) o_eq (fb_var (i := 2) rfl (by walk_at "VIS")) (fb_of fe_str) (nomark _))
      (fss_cons (fs_ret (fe_if (ft_cmp op_isX o_is (fb_var (i := 0) rfl (by walk_at "VIS")) (fb_of fe_non) (nomark _)) fe_non (fe_ix ix_seq o_ix (fb_var (i := 0) rfl (by walk_at "VIS")) (fb_of fe_int) (fun _ _ => rfl))))
    fss_nil)
      (fss_to fss_nil (by decide)))
    (fss_cons (fs_if (O' := []) (ft_cmp (op_eqX (u64 hr)) o_eq (fb_var (i := 2) rfl (by walk_at "VIS")) (fb_of fe_str) (nomark _))
      (fss_cons (fs_ret (fe_if (ft_cmp op_isX o_is (fb_var (i := 0) rfl (by walk_at "VIS")) (fb_of fe_non) (nomark _)) (fe_tup fa_nil) (fe_cst (by kernel_rfl))))
    fss_nil)
      (fss_to fss_nil (by decide)))
    (fss_forget [0, 2] (fss_cons (fs_ret (fe_var (i := 1) rfl (by walk_at "VIS") (by decide)))
    fss_nil)))))))
theorem cal__can_replace (T : TX P w K mg) : CalK P w K mg base 1 "_can_replace" false 2 m__can_replace := calK_of (ps := ["old", "new"]) (N := N__can_replace) (T.d__can_replace) T.g__can_replace sc__can_replace rfl rfl (fun _ _ _ _ _ _ us hl => match us, hl with | [_, _], _ => rfl) [] (fun cdv A outer s H E hr =>
    (fss_cons (fs_ret (fe_or (fe_ix ix_seq o_ix (fb_var (i := 0) rfl (by walk_at "VIS")) (fb_of fe_int) (fun _ _ => rfl)) (fe_one (fe_and (fe_not (fe_ix ix_seq o_ix (fb_var (i := 1) rfl (by walk_at "VIS")) (fb_of fe_int) (fun _ _ => rfl))) (fe_one (fe_or (fe_ix ix_seq o_ix (fb_var (i := 0) rfl (by walk_at "VIS")) (fb_of fe_int) (fun _ _ => rfl)) (fe_one (fe_cmp (op_eqX (u64 hr)) o_eq (fb_var (i := 0) rfl (by walk_at "VIS")) (fb_var (i := 1) rfl (by walk_at "VIS")) (nomark _)))))))))
    fss_nil))
theorem cal__is_done (T : TX P w K mg) : CalK P w K mg base 2 "_is_done" false 3 m__is_done := calK_of (ps := ["field", "shut", "deed"]) (N := N__is_done) (T.d__is_done) T.g__is_done sc__is_done rfl rfl (fun _ _ _ _ _ _ us hl => match us, hl with | [_, _, _], _ => rfl) [] (fun cdv A outer s H E hr =>
    (fss_cons (fs_set (i := 3) sc__is_done.nd rfl (by walk_at "LOC") (fe_ix ix_seq o_ix (fb_var (i := 2) rfl (by walk_at "VIS")) (fb_of fe_int) (fun _ _ => rfl)))
    (fss_cons (fs_if (O' := []) (ft_cmp (op_eqX (u64 hr)) o_eq (fb_var (i := 3) rfl (by walk_at "VIS")) (fb_of fe_str) (nomark _))
      (fss_cons (fs_ret (fe_or (fe_cmp op_isX o_is (fb_var (i := 0) rfl (by walk_at "VIS")) (fb_of fe_non) (nomark _)) (fe_one (fe_ix ix_seq o_ix (fb_var (i := 0) rfl (by walk_at "VIS")) (fb_of fe_int) (fun _ _ => rfl)))))
    fss_nil)
      (fss_to fss_nil (by decide)))
    (fss_cons (fs_if (O' := []) (ft_cmp op_isX o_is (fb_var (i := 0) rfl (by walk_at "VIS")) (fb_of fe_non) (nomark _))
      (fss_cons (fs_ret (fe_not (fe_var (i := 1) rfl (by walk_at "VIS") (by decide))))
    fss_nil)
      (fss_to fss_nil (by decide)))
    (fss_forget [1] (fss_cons (fs_if (O' := []) (ft_cmp (op_eqX (u64 hr)) o_eq (fb_var (i := 3) rfl (by walk_at "VIS")) (fb_of fe_str) (nomark _))
      (fss_cons (fs_ret (fe_ix ix_seq o_ix (fb_var (i := 0) rfl (by walk_at "VIS")) (fb_of fe_int) (fun _ _ => rfl)))
    fss_nil)
      (fss_to fss_nil (by decide)))
    (fss_forget [3] (fss_cons (fs_ret (fe_call (cal__can_replace T) hr (by decide) rfl (fa_cons (fe_var (i := 0) rfl (by walk_at "VIS") (by decide)) (fa_cons (fe_sl (fb_var (i := 2) rfl (by walk_at "VIS")) (fo_yes fe_int) fo_no) fa_nil))))
    fss_nil))))))))
theorem cal__field_after (T : TX P w K mg) : CalK P w K mg base 1 "_field_after" false 2 m__field_after := calK_of (ps := ["field", "deed"]) (N := N__field_after) (T.d__field_after) T.g__field_after sc__field_after rfl rfl (fun _ _ _ _ _ _ us hl => match us, hl with | [_, _], _ => rfl) [] (fun cdv A outer s H E hr =>
    (fss_cons (fs_set (i := 2) sc__field_after.nd rfl (by walk_at "LOC") (fe_ix ix_seq o_ix (fb_var (i := 1) rfl (by walk_at "VIS")) (fb_of fe_int) (fun _ _ => rfl)))
    (fss_cons (fs_if (O' := []) (ft_cmp (op_eqX (u64 hr)) o_eq (fb_var (i := 2) rfl (by walk_at "VIS")) (fb_of fe_str) (nomark _))
      (fss_cons (fs_ret fe_non)
    fss_nil)
      (fss_to fss_nil (by decide)))
    (fss_cons (fs_if (O' := []) (ft_cmp (op_eqX (u64 hr)) o_eq (fb_var (i := 2) rfl (by walk_at "VIS")) (fb_of fe_str) (nomark _))
      (fss_cons (fs_ret (fe_sl (fb_var (i := 1) rfl (by walk_at "VIS")) (fo_yes fe_int) fo_no))
    fss_nil)
      (fss_to fss_nil (by decide)))
    (fss_forget [2] (fss_cons (fs_if (O' := []) (ft_cmp op_isX o_is (fb_var (i := 0) rfl (by walk_at "VIS")) (fb_of fe_non) (nomark _))
      (fss_cons (fs_ret (fe_tup (fa_cons (fe_ix ix_seq o_ix (fb_var (i := 1) rfl (by walk_at "VIS")) (fb_of fe_int) (fun _ _ => rfl)) (fa_cons fe_bl (fa_cons fe_bl fa_nil)))))
    fss_nil)
      (fss_to fss_nil (by decide)))
    (fss_cons (fs_ret (fe_tup (fa_cons (fe_ix ix_seq o_ix (fb_var (i := 1) rfl (by walk_at "VIS")) (fb_of fe_int) (fun _ _ => rfl)) (fa_cons (fe_ix ix_seq o_ix (fb_var (i := 0) rfl (by walk_at "VIS")) (fb_of fe_int) (fun _ _ => rfl)) (fa_cons (fe_ix ix_seq o_ix (fb_var (i := 0) rfl (by walk_at "VIS")) (fb_of fe_int) (fun _ _ => rfl)) fa_nil)))))
    fss_nil)))))))
theorem cal_act (T : TX P w K mg) : CalK P w K mg base 3 "act" false 2 m_act := calK_of (ps := ["standing", "deed"]) (N := N_act) (T.d_act) T.g_act sc_act rfl rfl (fun _ _ _ _ _ _ us hl => match us, hl with | [_, _], _ => rfl) [] (fun cdv A outer s H E hr =>
    (fss_cons (fs_asg (fe_var (i := 0) rfl (by walk_at "VIS") (by decide)) (fg_tup rfl (fgs_cons (fg_name (i := 2) sc_act.nd rfl (by walk_at "LOC")) (fgs_cons (fg_name (i := 3) sc_act.nd rfl (by walk_at "LOC")) fgs_nil)) rfl (gCons_len (gCons_len gNil_len))))
    (fss_cons (fs_set (i := 4) sc_act.nd rfl (by walk_at "LOC") (fe_ix ix_seq o_ix (fb_var (i := 1) rfl (by walk_at "VIS")) (fb_of fe_int) (fun _ _ => rfl)))
    (fss_cons (fs_if (O' := []) (ft_cmp (op_inX (u65 hr)) o_in (fb_var (i := 4) rfl (by walk_at "VIS")) (fb_of (fe_cst (by kernel_rfl))) (by with_unfolding_all rfl))
      (fss_cons (fs_if (O' := []) (ft_not (ft_val (fe_call (cal__is_done T) hr (by decide) rfl (fa_cons (fe_var (i := 2) rfl (by walk_at "VIS") (by decide)) (fa_cons (fe_var (i := 3) rfl (by walk_at "VIS") (by decide)) (fa_cons (fe_var (i := 1) rfl (by walk_at "VIS") (by decide)) fa_nil))))))
      (fss_cons (fs_ret (fe_tup (fa_cons fe_bl (fa_cons (fe_var (i := 0) rfl (by walk_at "VIS") (by decide)) fa_nil))))
    fss_nil)
      (fss_to fss_nil (by decide)))
    (fss_cons (fs_ret (fe_tup (fa_cons fe_bl (fa_cons (fe_tup (fa_cons (fe_call (cal__field_after T) hr (by decide) rfl (fa_cons (fe_var (i := 2) rfl (by walk_at "VIS") (by decide)) (fa_cons (fe_var (i := 1) rfl (by walk_at "VIS") (by decide)) fa_nil))) (fa_cons (fe_var (i := 3) rfl (by walk_at "VIS") (by decide)) fa_nil))) fa_nil))))
    fss_nil))
      (fss_to fss_nil (by decide)))
    (fss_forget [1] (fss_cons (fs_if (O' := []) (ft_cmp (op_eqX (u64 hr)) o_eq (fb_var (i := 4) rfl (by walk_at "VIS")) (fb_of fe_str) (nomark _))
      (fss_cons (fs_ret (fe_tup (fa_cons fe_bl (fa_cons (fe_tup (fa_cons (fe_var (i := 2) rfl (by walk_at "VIS") (by decide)) (fa_cons fe_bl fa_nil))) fa_nil))))
    fss_nil)
      (fss_to fss_nil (by decide)))
    (fss_cons (fs_ret (fe_tup (fa_cons (fe_call (cal__reading T) hr (by decide) rfl (fa_cons (fe_var (i := 2) rfl (by walk_at "VIS") (by decide)) (fa_cons (fe_var (i := 3) rfl (by walk_at "VIS") (by decide)) (fa_cons (fe_var (i := 4) rfl (by walk_at "VIS") (by decide)) fa_nil)))) (fa_cons (fe_var (i := 0) rfl (by walk_at "VIS") (by decide)) fa_nil))))
    fss_nil)))))))
theorem cal_Recorded___init__ (T : TX P w K mg) : CalCF P w K mg base 1 "Recorded" "__init__" 1 m_Recorded___init__ := calCF_of (ps := ["self"]) (N := N_Recorded___init__) T.d_Recorded___init__ T.g_Recorded T.cf_Recorded___init__ sc_Recorded___init__ rfl rfl (fun _ _ _ _ _ _ us hl => match us, hl with | [_], _ => rfl) [] (fun cdv A outer s H E hr =>
    (mss_cons (ms_putA T.c_Thing T.n_Thing__history (me_list (fn_lst fa_nil)) (fe_var (i := 0) rfl (by walk_at "VIS") (by decide)))
    mss_nil))
theorem cal__with_field (T : TX P w K mg) : CalK P w K mg base 1 "_with_field" false 3 m__with_field := calK_of (ps := ["fields", "name", "field"]) (N := N__with_field) (T.d__with_field) T.g__with_field sc__with_field rfl rfl (fun _ _ _ _ _ _ us hl => match us, hl with | [_, _, _], _ => rfl) [] (fun cdv A outer s H E hr =>
    (fss_cons (fs_if (O' := []) (ft_cmp op_isX o_is (fb_var (i := 2) rfl (by walk_at "VIS")) (fb_of fe_non) (nomark _))
      (fss_cons (fs_ret (fe_of_fd (fd_dcK (i0 := 0) (own := [("other", 3)]) (tgs := [3]) rfl (by walk_at "VIS") (by decide) rfl sc__with_field.nd (blkOk_by (N := N__with_field) (sc := defScope s__with_field) (own := [("other", 3)]) (by decide +kernel)) (fun _ _ _ _ _ => (fg_name (i := 3) sc__with_field.nd rfl (by walk_at "LOC"))) (fun _ _ _ _ _ => (ft_cmp (op_neX (u64 hr)) o_ne (fb_var (i := 3) rfl (by walk_at "VIS")) (fb_var (i := 1) rfl (by walk_at "VIS")) (nomark _))) (fun _ _ _ _ _ => (fe_var (i := 3) rfl (by walk_at "VIS") (by decide))) (fun _ _ _ _ _ => (fe_dget (u64 hr) (fe_var (i := 0) rfl (by walk_at "VIS") (by decide)) (fe_var (i := 3) rfl (by walk_at "VIS") (by decide)))) (by decide))))
    fss_nil)
      (fss_to fss_nil (by decide)))
    (fss_cons (fs_ret (fe_of_fd (fd_starD (fe_var (i := 0) rfl (by walk_at "VIS") (by decide)) (fe_var (i := 1) rfl (by walk_at "VIS") (by decide)) (fe_var (i := 2) rfl (by walk_at "VIS") (by decide)))))
    fss_nil)))
theorem cal_Thing___init__ (T : TX P w K mg) : CalCD P w K mg base 3 "Thing" 1 m_Thing___init__ [] ∧ CalCD P w K mg base 3 "Thing" 1 m_Thing___init__ [(.tup [])] := calCM2_of (ps := ["self", "rows"]) (N := N_Thing___init__) 1 0 T.d_Thing___init__ (by simp) T.i_Thing T.g_Thing sc_Thing___init__ rfl rfl (fun _ _ _ _ _ _ _ us its hl hm => match us, hl, its, hm with | [_, _], _, [_], _ => ⟨_, rfl, rfl⟩) rfl (fun _ _ _ _ _ _ _ us its hl hm => match us, hl, its, hm with | [_], _, [_], _ => ⟨_, rfl, rfl⟩) (fun φ H => (.cons (T.df_Thing_0 φ H) .nil)) [] (fun cdv A outer s H E hr =>
    (mss_cons (ms_exM (me_cfn (cal_Recorded___init__ T) hr (by decide) rfl (ma_cons (me_pure (fe_var (i := 0) rfl (by walk_at "VIS") (by decide))) ma_nil)))
    (mss_cons (ms_putA T.c_Thing T.n_Thing__fields (me_pure (fe_of_fd (fd_dc (own := [("name", 2), ("value", 3), ("changes", 4), ("goes", 5)]) (tgs := [2, 3, 4, 5]) rfl sc_Thing___init__.nd (blkOk_by (N := N_Thing___init__) (sc := defScope s_Thing___init__) (own := [("name", 2), ("value", 3), ("changes", 4), ("goes", 5)]) (by decide +kernel)) (fib_seq (fe_var (i := 1) rfl (by walk_at "VIS") (by decide))) (fun _ _ _ _ _ => (fg_tup rfl (fgs_cons (fg_name (i := 2) sc_Thing___init__.nd rfl (by walk_at "LOC")) (fgs_cons (fg_name (i := 3) sc_Thing___init__.nd rfl (by walk_at "LOC")) (fgs_cons (fg_name (i := 4) sc_Thing___init__.nd rfl (by walk_at "LOC")) (fgs_cons (fg_name (i := 5) sc_Thing___init__.nd rfl (by walk_at "LOC")) fgs_nil)))) rfl (gCons_len (gCons_len (gCons_len (gCons_len gNil_len)))))) (fun _ _ _ _ _ => (fe_var (i := 2) rfl (by walk_at "VIS") (by decide))) (fun _ _ _ _ _ => (fe_tup (fa_cons (fe_var (i := 3) rfl (by walk_at "VIS") (by decide)) (fa_cons (fe_var (i := 4) rfl (by walk_at "VIS") (by decide)) (fa_cons (fe_var (i := 5) rfl (by walk_at "VIS") (by decide)) fa_nil))))) (by decide)))) (fe_var (i := 0) rfl (by walk_at "VIS") (by decide)))
    (mss_forget [1] (mss_cons (ms_putA T.c_Thing T.n_Thing__shut (me_pure fe_bl) (fe_var (i := 0) rfl (by walk_at "VIS") (by decide)))
    mss_nil)))))
theorem cal_Thing__done (T : TX P w K mg) : CalME P w K mg base 4 "Thing" "_done" 2 m_Thing__done := calME_of (ps := ["self", "deed"]) (N := N_Thing__done) T.d_Thing__done T.c_Thing T.m_Thing__done sc_Thing__done rfl rfl (fun _ _ _ _ _ _ us hl => match us, hl with | [_, _], _ => rfl) [] (fun cdv A outer s H E hr =>
    (mss_cons (ms_if (O' := []) (mt_pure (ft_cmp (op_eqX (u64 hr)) o_eq (fb_var (i := 1) rfl (by walk_at "VIS")) (fb_of (fe_cst (by kernel_rfl))) (nomark _)))
      (mss_cons (ms_ret (me_look (fe_tupD hr.hd (fe_fld T.c_Thing T.n_Thing__fields (fe_var (i := 0) rfl (by walk_at "VIS") (by decide))) rfl T.z_tuple (by decide +kernel))))
    mss_nil)
      (mss_to mss_nil (by decide)))
    (mss_cons (ms_pure (fs_set (i := 2) sc_Thing__done.nd rfl (by walk_at "LOC") (fe_if (ft_cmp op_gt o_gt (fb_of (fe_callB c_len l_len rfl T.z_len (by decide +kernel) (fba_cons (fb_var (i := 1) rfl (by walk_at "VIS")) fba_nil))) (fb_of fe_int) (nomark _)) (fe_ix ix_seq o_ix (fb_var (i := 1) rfl (by walk_at "VIS")) (fb_of fe_int) (fun _ _ => rfl)) fe_non)))
    (mss_cons (ms_asg (me_look (fe_call (cal_act T) hr (by decide) rfl (fa_cons (fe_tup (fa_cons (fe_dgetN (u64 hr) (fe_fld T.c_Thing T.n_Thing__fields (fe_var (i := 0) rfl (by walk_at "VIS") (by decide))) (fe_var (i := 2) rfl (by walk_at "VIS") (by decide))) (fa_cons (fe_fld T.c_Thing T.n_Thing__shut (fe_var (i := 0) rfl (by walk_at "VIS") (by decide))) fa_nil))) (fa_cons (fe_var (i := 1) rfl (by walk_at "VIS") (by decide)) fa_nil)))) (fg_tup rfl (fgs_cons (fg_name (i := 3) sc_Thing__done.nd rfl (by walk_at "LOC")) (fgs_cons (fg_tup rfl (fgs_cons (fg_name (i := 4) sc_Thing__done.nd rfl (by walk_at "LOC")) (fgs_cons (fg_name (i := 5) sc_Thing__done.nd rfl (by walk_at "LOC")) fgs_nil)) rfl (gCons_len (gCons_len gNil_len))) fgs_nil)) rfl (gCons_len (gCons_len gNil_len))))
    (mss_forget [1] (mss_cons (ms_putA T.c_Thing T.n_Thing__shut (me_pure (fe_var (i := 5) rfl (by walk_at "VIS") (by decide))) (fe_var (i := 0) rfl (by walk_at "VIS") (by decide)))
    (mss_forget [5] (mss_cons (ms_if (O' := []) (mt_pure (ft_cmp op_isntX o_isnt (fb_var (i := 2) rfl (by walk_at "VIS")) (fb_of fe_non) (nomark _)))
      (mss_to (mss_cons (ms_putA T.c_Thing T.n_Thing__fields (me_callK (cal__with_field T) hr (by decide) rfl (ma_cons (me_fld T.c_Thing T.n_Thing__fields (me_pure (fe_var (i := 0) rfl (by walk_at "VIS") (by decide)))) (ma_cons (me_pure (fe_var (i := 2) rfl (by walk_at "VIS") (by decide))) (ma_cons (me_pure (fe_var (i := 4) rfl (by walk_at "VIS") (by decide))) ma_nil)))) (fe_var (i := 0) rfl (by walk_at "VIS") (by decide)))
    mss_nil) (by decide))
      (mss_to mss_nil (by decide)))
    (mss_forget [0, 2, 4] (mss_cons (ms_pure (fs_ret (fe_var (i := 3) rfl (by walk_at "VIS") (by decide))))
    mss_nil))))))))))
theorem cal_Thing__keep (T : TX P w K mg) : CalME P w K mg base 1 "Thing" "_keep" 2 m_Thing__keep := calME_of (ps := ["self", "event"]) (N := N_Thing__keep) T.d_Thing__keep T.c_Thing T.m_Thing__keep sc_Thing__keep rfl rfl (fun _ _ _ _ _ _ us hl => match us, hl with | [_, _], _ => rfl) [] (fun cdv A outer s H E hr =>
    (mss_cons (ms_mutE (me_fld T.c_Thing T.n_Thing__history (me_pure (fe_var (i := 0) rfl (by walk_at "VIS") (by decide)))) PySem.F.slot_list_append PySem.F.type_list_append mt_append r_append (ma_pure (fa_cons (fe_var (i := 1) rfl (by walk_at "VIS") (by decide)) fa_nil)))
    mss_nil))
theorem cal_Thing_ask (T : TX P w K mg) : CalME P w K mg base 5 "Thing" "ask" 2 m_Thing_ask := calME_of (ps := ["self", "deed"]) (N := N_Thing_ask) T.d_Thing_ask T.c_Thing T.m_Thing_ask sc_Thing_ask rfl rfl (fun _ _ _ _ _ _ us hl => match us, hl with | [_, _], _ => rfl) [] (fun cdv A outer s H E hr =>
    (mss_cons (ms_set (i := 2) sc_Thing_ask.nd rfl (by walk_at "LOC") (me_meth (cal_Thing__done T) hr (by decide) (fe_var (i := 0) rfl (by walk_at "VIS") (by decide)) (ma_pure (fa_cons (fe_var (i := 1) rfl (by walk_at "VIS") (by decide)) fa_nil))))
    (mss_cons (ms_exM (me_meth (cal_Thing__keep T) hr (by decide) (fe_var (i := 0) rfl (by walk_at "VIS") (by decide)) (ma_pure (fa_cons (fe_tup (fa_cons (fe_var (i := 1) rfl (by walk_at "VIS") (by decide)) (fa_cons (fe_var (i := 2) rfl (by walk_at "VIS") (by decide)) fa_nil))) fa_nil))))
    (mss_forget [0, 1] (mss_cons (ms_pure (fs_ret (fe_var (i := 2) rfl (by walk_at "VIS") (by decide))))
    mss_nil)))))
theorem cal_Thing___getitem__ (T : TX P w K mg) : CalM P w K mg base 1 "Thing" "__getitem__" false 2 m_Thing___getitem__ [] := calM_of (ps := ["self", "name"]) (N := N_Thing___getitem__) T.d_Thing___getitem__ T.c_Thing T.m_Thing___getitem__ sc_Thing___getitem__ rfl rfl (fun _ _ _ _ _ _ us hl => match us, hl with | [_, _], _ => rfl) [] (fun cdv A outer s H E hr =>
    (fss_cons (fs_set (i := 2) sc_Thing___getitem__.nd rfl (by walk_at "LOC") (fe_dgetN (u64 hr) (fe_fld T.c_Thing T.n_Thing__fields (fe_var (i := 0) rfl (by walk_at "VIS") (by decide))) (fe_var (i := 1) rfl (by walk_at "VIS") (by decide))))
    (fss_forget [0, 1] (fss_cons (fs_ret (fe_if (ft_cmp op_isX o_is (fb_var (i := 2) rfl (by walk_at "VIS")) (fb_of fe_non) (nomark _)) fe_non (fe_ix ix_seq o_ix (fb_var (i := 2) rfl (by walk_at "VIS")) (fb_of fe_int) (fun _ _ => rfl))))
    fss_nil))))
theorem calmx_Thing___setitem__ (T : TX P w K mg) : CalMEX P w K mg base 6 "Thing" "__setitem__" 3 mmx_Thing___setitem__ := calMEX_of (ps := ["self", "name", "value"]) (N := N_Thing___setitem__) T.d_Thing___setitem__ T.c_Thing T.m_Thing___setitem__ sc_Thing___setitem__ rfl rfl (fun _ _ _ _ _ _ us hl => match us, hl with | [_, _, _], _ => rfl) [] (fun cdv A outer s H E hr tk =>
    (mxs_cons (ms_pure (fs_set (i := 3) sc_Thing___setitem__.nd rfl (by walk_at "LOC") (fe_tup (fa_cons fe_str (fa_cons (fe_var (i := 1) rfl (by walk_at "VIS") (by decide)) (fa_cons (fe_var (i := 2) rfl (by walk_at "VIS") (by decide)) fa_nil)))))) mx_no
    (mxs_hd (mx_if (mt_not (mt_val (me_meth (cal_Thing_ask T) hr (by decide) (fe_var (i := 0) rfl (by walk_at "VIS") (by decide)) (ma_pure (fa_cons (fe_var (i := 3) rfl (by walk_at "VIS") (by decide)) fa_nil))))) (mxs_hd (mx_pure (fx_raiseN rfl tk T.x_Refused T.gx_Refused T.z_super (hr.mono (by decide)) rfl (fe_var (i := 3) rfl (by walk_at "VIS") (by decide))))) mxs_no))))
theorem cal_Thing___setitem__ (T : TX P w K mg) : CalME P w K mg base 6 "Thing" "__setitem__" 3 m_Thing___setitem__ := calME_of (ps := ["self", "name", "value"]) (N := N_Thing___setitem__) T.d_Thing___setitem__ T.c_Thing T.m_Thing___setitem__ sc_Thing___setitem__ rfl rfl (fun _ _ _ _ _ _ us hl => match us, hl with | [_, _, _], _ => rfl) [] (fun cdv A outer s H E hr =>
    (mss_cons (ms_pure (fs_set (i := 3) sc_Thing___setitem__.nd rfl (by walk_at "LOC") (fe_tup (fa_cons fe_str (fa_cons (fe_var (i := 1) rfl (by walk_at "VIS") (by decide)) (fa_cons (fe_var (i := 2) rfl (by walk_at "VIS") (by decide)) fa_nil))))))
    (mss_forget [1, 2] (mss_cons (ms_if (O' := []) (mt_not (mt_val (me_meth (cal_Thing_ask T) hr (by decide) (fe_var (i := 0) rfl (by walk_at "VIS") (by decide)) (ma_pure (fa_cons (fe_var (i := 3) rfl (by walk_at "VIS") (by decide)) fa_nil)))))
      (mss_cons (ms_pure (fs_dead (O' := [])))
    mss_nil)
      (mss_to mss_nil (by decide)))
    mss_nil))))
theorem cal_Thing___contains__ (T : TX P w K mg) : CalM P w K mg base 1 "Thing" "__contains__" false 2 m_Thing___contains__ [] := calM_of (ps := ["self", "name"]) (N := N_Thing___contains__) T.d_Thing___contains__ T.c_Thing T.m_Thing___contains__ sc_Thing___contains__ rfl rfl (fun _ _ _ _ _ _ us hl => match us, hl with | [_, _], _ => rfl) [] (fun cdv A outer s H E hr =>
    (fss_cons (fs_ret (fe_din (u64 hr) (fe_var (i := 1) rfl (by walk_at "VIS") (by decide)) (fe_fld T.c_Thing T.n_Thing__fields (fe_var (i := 0) rfl (by walk_at "VIS") (by decide)))))
    fss_nil))
theorem cal_Thing___iter__ (T : TX P w K mg) : CalID P w K mg base 1 "Thing" "_fields" := calID_of (self := "self") T.d_Thing___iter__ T.c_Thing T.m_Thing___iter__ T.n_Thing__fields sc_Thing___iter__ T.z_iter (fun _ _ _ _ _ _ us hl => match us, hl with | [_], _ => rfl) rfl rfl (by decide) (by decide) (fun _ _ _ => rfl) (fun _ _ _ => (by walk_at "VIS"))
theorem cal_Thing___bool__ (T : TX P w K mg) : CalM P w K mg base 1 "Thing" "__bool__" false 1 m_Thing___bool__ [] := calM_of (ps := ["self"]) (N := N_Thing___bool__) T.d_Thing___bool__ T.c_Thing T.m_Thing___bool__ sc_Thing___bool__ rfl rfl (fun _ _ _ _ _ _ us hl => match us, hl with | [_], _ => rfl) [] (fun cdv A outer s H E hr =>
    (fss_cons (fs_ret (fe_cmp op_isX o_is (fb_of (fe_fld T.c_Thing T.n_Thing__shut (fe_var (i := 0) rfl (by walk_at "VIS") (by decide)))) (fb_of fe_bl) (nomark _)))
    fss_nil))
theorem cal_Thing_is_shut (T : TX P w K mg) : CalP P w K mg base 1 "Thing" "is_shut" false m_Thing_is_shut := calP_of (ps := ["self"]) (N := N_Thing_is_shut) T.d_Thing_is_shut T.c_Thing T.p_Thing_is_shut sc_Thing_is_shut rfl rfl (fun _ _ _ _ _ _ us hl => match us, hl with | [_], _ => rfl) [] (fun cdv A outer s H E hr =>
    (fss_cons (fs_ret (fe_fld T.c_Thing T.n_Thing__shut (fe_var (i := 0) rfl (by walk_at "VIS") (by decide))))
    fss_nil))
theorem cal_Thing_history (T : TX P w K mg) : CalP P w K mg base 1 "Thing" "history" false m_Thing_history := calP_of (ps := ["self"]) (N := N_Thing_history) T.d_Thing_history T.c_Thing T.p_Thing_history sc_Thing_history rfl rfl (fun _ _ _ _ _ _ us hl => match us, hl with | [_], _ => rfl) [] (fun cdv A outer s H E hr =>
    (fss_cons (fs_ret (fe_of_fn (fn_callTy call_list_of l_list rfl T.z_list (by decide +kernel) (fba_cons (fb_of (fe_fld T.c_Thing T.n_Thing__history (fe_var (i := 0) rfl (by walk_at "VIS") (by decide)))) fba_nil))))
    fss_nil))
theorem cal__law_cell (T : TX P w K mg) : CalK P w K mg base 1 "_law_cell" false 2 m__law_cell := calK_of (ps := ["_law_script", "_law_k"]) (N := N__law_cell) (T.d__law_cell) T.g__law_cell sc__law_cell rfl rfl (fun _ _ _ _ _ _ us hl => match us, hl with | [_, _], _ => rfl) [] (fun cdv A outer s H E hr =>
    (fss_cons (fs_if (O' := []) (ft_cmp op_lt o_lt (fb_var (i := 1) rfl (by walk_at "VIS")) (fb_of (fe_callB c_len l_len rfl T.z_len (by decide +kernel) (fba_cons (fb_var (i := 0) rfl (by walk_at "VIS")) fba_nil))) (nomark _))
      (fss_cons (fs_ret (fe_callTy call_int1 l_int rfl T.z_int (by decide +kernel) (fba_cons (fb_of (fe_ix ix_seq o_ix (fb_var (i := 0) rfl (by walk_at "VIS")) (fb_var (i := 1) rfl (by walk_at "VIS")) (fun _ _ => rfl))) fba_nil)))
    fss_nil)
      (fss_to fss_nil (by decide)))
    (fss_forget [0, 1] (fss_cons (fs_ret fe_int)
    fss_nil))))
theorem cal__law_draws (T : TX P w K mg) : CalK P w K mg base 1 "_law_draws" false 2 m__law_draws := calK_of (ps := ["_law_cell_here", "_law_many"]) (N := N__law_draws) (T.d__law_draws) T.g__law_draws sc__law_draws rfl rfl (fun _ _ _ _ _ _ us hl => match us, hl with | [_, _], _ => rfl) [] (fun cdv A outer s H E hr =>
    (fss_cons (fs_setNew (i := 2) sc__law_draws.nd rfl (by walk_at "LOC") (fn_lst fa_nil))
    (fss_cons (fs_set (i := 3) sc__law_draws.nd rfl (by walk_at "LOC") fe_int)
    (fss_cons (fs_if (O' := [2]) (ft_cmp op_ge o_ge (fb_var (i := 0) rfl (by walk_at "VIS")) (fb_of (fe_op op_pow o_pow (fb_of fe_int) (fb_of fe_int))) (nomark _))
      (fss_to (fss_cons (fs_set (i := 3) sc__law_draws.nd rfl (by walk_at "LOC") (fe_op op_sub o_sub (fb_var (i := 0) rfl (by walk_at "VIS")) (fb_of (fe_op op_pow o_pow (fb_of fe_int) (fb_of fe_int)))))
    fss_nil) (by decide))
      (fss_to fss_nil (by decide)))
    (fss_cons (fs_for PassesOwn.never rfl (fi_rng1 rfl T.z_range (fa_cons (fe_var (i := 1) rfl (by walk_at "VIS") (by decide)) fa_nil)) (fg_name (i := 4) sc__law_draws.nd rfl (by walk_at "LOC"))
      (fss_to (fss_cons (fs_set (i := 5) sc__law_draws.nd rfl (by walk_at "LOC") (fe_op op_mod o_mod (fb_of (fe_callTy call_int1 l_int rfl T.z_int (by decide +kernel) (fba_cons (fb_of (fe_op op_addX o_add (fb_of (fe_op op_addX o_add (fb_var (i := 0) rfl (by walk_at "VIS")) (fb_of (fe_op op_mul o_mul (fb_of fe_int) (fb_var (i := 4) rfl (by walk_at "VIS")))))) (fb_of fe_int))) fba_nil))) (fb_of fe_int)))
    (fss_cons (fs_set (i := 5) sc__law_draws.nd rfl (by walk_at "LOC") (fe_op op_mod o_mod (fb_of (fe_callTy call_int1 l_int rfl T.z_int (by decide +kernel) (fba_cons (fb_of (fe_op op_addX o_add (fb_of (fe_op op_mul o_mul (fb_var (i := 5) rfl (by walk_at "VIS")) (fb_var (i := 5) rfl (by walk_at "VIS")))) (fb_of (fe_op op_mul o_mul (fb_of fe_int) (fb_var (i := 4) rfl (by walk_at "VIS")))))) fba_nil))) (fb_of fe_int)))
    (fss_cons (fs_set (i := 5) sc__law_draws.nd rfl (by walk_at "LOC") (fe_op op_mod o_mod (fb_of (fe_callTy call_int1 l_int rfl T.z_int (by decide +kernel) (fba_cons (fb_of (fe_op op_addX o_add (fb_of (fe_op op_mul o_mul (fb_var (i := 5) rfl (by walk_at "VIS")) (fb_of fe_int))) (fb_of (fe_op op_fdiv o_fdiv (fb_var (i := 5) rfl (by walk_at "VIS")) (fb_of fe_int))))) fba_nil))) (fb_of fe_int)))
    (fss_cons (fs_if (O' := [2]) (ft_cmp op_gt o_gt (fb_var (i := 3) rfl (by walk_at "VIS")) (fb_of fe_int) (nomark _))
      (fss_to (fss_cons (fs_set (i := 5) sc__law_draws.nd rfl (by walk_at "LOC") (fe_op op_mod o_mod (fb_of (fe_callTy call_int1 l_int rfl T.z_int (by decide +kernel) (fba_cons (fb_var (i := 3) rfl (by walk_at "VIS")) fba_nil))) (fb_of fe_int)))
    (fss_cons (fs_set (i := 3) sc__law_draws.nd rfl (by walk_at "LOC") (fe_op op_fdiv o_fdiv (fb_var (i := 3) rfl (by walk_at "VIS")) (fb_of fe_int)))
    fss_nil)) (by decide))
      (fss_to fss_nil (by decide)))
    (fss_cons (fs_mut (i := 2) rfl (by walk_at "VIS") (by decide) PySem.F.slot_list_append PySem.F.type_list_append mt_append r_append (fa_cons (fe_var (i := 5) rfl (by walk_at "VIS") (by decide)) fa_nil))
    fss_nil))))) (by decide)))
    (fss_forget [0, 1, 3, 4, 5] (fss_cons (fs_frz (O1 := []) (fs_ret (fe_var (i := 2) rfl (by walk_at "VIS") (by decide))) (by decide))
    fss_nil)))))))
theorem cal__law_defines (T : TX P w K mg) : CalK P w K mg base 1 "_law_defines" false 3 m__law_defines := calK_of (ps := ["_law_old", "_law_shut", "_law_new"]) (N := N__law_defines) (T.d__law_defines) T.g__law_defines sc__law_defines rfl rfl (fun _ _ _ _ _ _ us hl => match us, hl with | [_, _, _], _ => rfl) [] (fun cdv A outer s H E hr =>
    (fss_cons (fs_if (O' := []) (ft_cmp op_isX o_is (fb_var (i := 0) rfl (by walk_at "VIS")) (fb_of fe_non) (nomark _))
      (fss_cons (fs_ret (fe_not (fe_var (i := 1) rfl (by walk_at "VIS") (by decide))))
    fss_nil)
      (fss_to fss_nil (by decide)))
    (fss_forget [1] (fss_cons (fs_if (O' := []) (ft_val (fe_ix ix_seq o_ix (fb_var (i := 0) rfl (by walk_at "VIS")) (fb_of fe_int) (fun _ _ => rfl)))
      (fss_cons (fs_ret fe_bl)
    fss_nil)
      (fss_to fss_nil (by decide)))
    (fss_cons (fs_ret (fe_and (fe_not (fe_ix ix_seq o_ix (fb_var (i := 2) rfl (by walk_at "VIS")) (fb_of fe_int) (fun _ _ => rfl))) (fe_one (fe_or (fe_ix ix_seq o_ix (fb_var (i := 0) rfl (by walk_at "VIS")) (fb_of fe_int) (fun _ _ => rfl)) (fe_one (fe_cmp (op_eqX (u64 hr)) o_eq (fb_var (i := 0) rfl (by walk_at "VIS")) (fb_var (i := 2) rfl (by walk_at "VIS")) (nomark _)))))))
    fss_nil)))))
theorem cal__law_act (T : TX P w K mg) : CalK P w K mg base 2 "_law_act" true 3 m__law_act := calK_of (ps := ["_law_field", "_law_shut", "_law_request"]) (N := N__law_act) (T.d__law_act) T.g__law_act sc__law_act rfl rfl (fun _ _ _ _ _ _ us hl => match us, hl with | [_, _, _], _ => rfl) [] (fun cdv A outer s H E hr =>
    (fss_cons (fs_set (i := 3) sc__law_act.nd rfl (by walk_at "LOC") (fe_ix ix_seq o_ix (fb_var (i := 2) rfl (by walk_at "VIS")) (fb_of fe_int) (fun _ _ => rfl)))
    (fss_cons (fs_if (O' := []) (ft_cmp (op_eqX (u64 hr)) o_eq (fb_var (i := 3) rfl (by walk_at "VIS")) (fb_of fe_str) (nomark _))
      (fss_cons (fs_retNew (fn_lst (fa_cons (fe_var (i := 0) rfl (by walk_at "VIS") (by decide)) (fa_cons (fe_var (i := 0) rfl (by walk_at "VIS") (by decide)) (fa_cons (fe_var (i := 1) rfl (by walk_at "VIS") (by decide)) fa_nil)))))
    fss_nil)
      (fss_to fss_nil (by decide)))
    (fss_cons (fs_if (O' := []) (ft_cmp (op_eqX (u64 hr)) o_eq (fb_var (i := 3) rfl (by walk_at "VIS")) (fb_of fe_str) (nomark _))
      (fss_cons (fs_retNew (fn_lst (fa_cons (fe_cmp op_isntX o_isnt (fb_var (i := 0) rfl (by walk_at "VIS")) (fb_of fe_non) (nomark _)) (fa_cons (fe_var (i := 0) rfl (by walk_at "VIS") (by decide)) (fa_cons (fe_var (i := 1) rfl (by walk_at "VIS") (by decide)) fa_nil)))))
    fss_nil)
      (fss_to fss_nil (by decide)))
    (fss_cons (fs_if (O' := []) (ft_cmp (op_eqX (u64 hr)) o_eq (fb_var (i := 3) rfl (by walk_at "VIS")) (fb_of fe_str) (nomark _))
      (fss_cons (fs_if (O' := []) (ft_cmp op_isX o_is (fb_var (i := 0) rfl (by walk_at "VIS")) (fb_of fe_non) (nomark _))
      (fss_cons (fs_retNew (fn_lst (fa_cons fe_non (fa_cons (fe_var (i := 0) rfl (by walk_at "VIS") (by decide)) (fa_cons (fe_var (i := 1) rfl (by walk_at "VIS") (by decide)) fa_nil)))))
    fss_nil)
      (fss_to fss_nil (by decide)))
    (fss_cons (fs_retNew (fn_lst (fa_cons (fe_ix ix_seq o_ix (fb_var (i := 0) rfl (by walk_at "VIS")) (fb_of fe_int) (fun _ _ => rfl)) (fa_cons (fe_var (i := 0) rfl (by walk_at "VIS") (by decide)) (fa_cons (fe_var (i := 1) rfl (by walk_at "VIS") (by decide)) fa_nil)))))
    fss_nil))
      (fss_to fss_nil (by decide)))
    (fss_cons (fs_if (O' := []) (ft_cmp (op_eqX (u64 hr)) o_eq (fb_var (i := 3) rfl (by walk_at "VIS")) (fb_of fe_str) (nomark _))
      (fss_cons (fs_retNew (fn_lst (fa_cons fe_bl (fa_cons (fe_var (i := 0) rfl (by walk_at "VIS") (by decide)) (fa_cons fe_bl fa_nil)))))
    fss_nil)
      (fss_to fss_nil (by decide)))
    (fss_cons (fs_if (O' := []) (ft_cmp (op_eqX (u64 hr)) o_eq (fb_var (i := 3) rfl (by walk_at "VIS")) (fb_of fe_str) (nomark _))
      (fss_cons (fs_retNew (fn_lst (fa_cons (fe_var (i := 1) rfl (by walk_at "VIS") (by decide)) (fa_cons (fe_var (i := 0) rfl (by walk_at "VIS") (by decide)) (fa_cons (fe_var (i := 1) rfl (by walk_at "VIS") (by decide)) fa_nil)))))
    fss_nil)
      (fss_to fss_nil (by decide)))
    (fss_cons (fs_if (O' := []) (ft_cmp (op_eqX (u64 hr)) o_eq (fb_var (i := 3) rfl (by walk_at "VIS")) (fb_of fe_str) (nomark _))
      (fss_cons (fs_if (O' := []) (ft_w (fw_and (ft_cmp op_isntX o_isnt (fb_var (i := 0) rfl (by walk_at "VIS")) (fb_of fe_non) (nomark _)) (fw_and1 (ft_not (ft_val (fe_ix ix_seq o_ix (fb_var (i := 0) rfl (by walk_at "VIS")) (fb_of fe_int) (fun _ _ => rfl)))))))
      (fss_cons (fs_retNew (fn_lst (fa_cons fe_bl (fa_cons (fe_var (i := 0) rfl (by walk_at "VIS") (by decide)) (fa_cons (fe_var (i := 1) rfl (by walk_at "VIS") (by decide)) fa_nil)))))
    fss_nil)
      (fss_to fss_nil (by decide)))
    (fss_cons (fs_retNew (fn_lst (fa_cons fe_bl (fa_cons fe_non (fa_cons (fe_var (i := 1) rfl (by walk_at "VIS") (by decide)) fa_nil)))))
    fss_nil))
      (fss_to fss_nil (by decide)))
    (fss_cons (fs_if (O' := []) (ft_cmp (op_eqX (u64 hr)) o_eq (fb_var (i := 3) rfl (by walk_at "VIS")) (fb_of fe_str) (nomark _))
      (fss_cons (fs_if (O' := []) (ft_w (fw_and (ft_cmp op_isX o_is (fb_var (i := 0) rfl (by walk_at "VIS")) (fb_of fe_non) (nomark _)) (fw_and1 (ft_not (ft_val (fe_var (i := 1) rfl (by walk_at "VIS") (by decide)))))))
      (fss_cons (fs_retNew (fn_lst (fa_cons fe_bl (fa_cons (fe_tup (fa_cons (fe_ix ix_seq o_ix (fb_var (i := 2) rfl (by walk_at "VIS")) (fb_of fe_int) (fun _ _ => rfl)) (fa_cons fe_bl (fa_cons fe_bl fa_nil)))) (fa_cons (fe_var (i := 1) rfl (by walk_at "VIS") (by decide)) fa_nil)))))
    fss_nil)
      (fss_to fss_nil (by decide)))
    (fss_cons (fs_if (O' := []) (ft_w (fw_and (ft_cmp op_isntX o_isnt (fb_var (i := 0) rfl (by walk_at "VIS")) (fb_of fe_non) (nomark _)) (fw_and1 (ft_val (fe_ix ix_seq o_ix (fb_var (i := 0) rfl (by walk_at "VIS")) (fb_of fe_int) (fun _ _ => rfl))))))
      (fss_cons (fs_retNew (fn_lst (fa_cons fe_bl (fa_cons (fe_tup (fa_cons (fe_ix ix_seq o_ix (fb_var (i := 2) rfl (by walk_at "VIS")) (fb_of fe_int) (fun _ _ => rfl)) (fa_cons fe_bl (fa_cons (fe_ix ix_seq o_ix (fb_var (i := 0) rfl (by walk_at "VIS")) (fb_of fe_int) (fun _ _ => rfl)) fa_nil)))) (fa_cons (fe_var (i := 1) rfl (by walk_at "VIS") (by decide)) fa_nil)))))
    fss_nil)
      (fss_to fss_nil (by decide)))
    (fss_cons (fs_retNew (fn_lst (fa_cons fe_bl (fa_cons (fe_var (i := 0) rfl (by walk_at "VIS") (by decide)) (fa_cons (fe_var (i := 1) rfl (by walk_at "VIS") (by decide)) fa_nil)))))
    fss_nil)))
      (fss_to fss_nil (by decide)))
    (fss_forget [3] (fss_cons (fs_set (i := 4) sc__law_act.nd rfl (by walk_at "LOC") (fe_tup (fa_cons (fe_ix ix_seq o_ix (fb_var (i := 2) rfl (by walk_at "VIS")) (fb_of fe_int) (fun _ _ => rfl)) (fa_cons (fe_ix ix_seq o_ix (fb_var (i := 2) rfl (by walk_at "VIS")) (fb_of fe_int) (fun _ _ => rfl)) (fa_cons (fe_ix ix_seq o_ix (fb_var (i := 2) rfl (by walk_at "VIS")) (fb_of fe_int) (fun _ _ => rfl)) fa_nil)))))
    (fss_forget [2] (fss_cons (fs_if (O' := []) (ft_val (fe_call (cal__law_defines T) hr (by decide) rfl (fa_cons (fe_var (i := 0) rfl (by walk_at "VIS") (by decide)) (fa_cons (fe_var (i := 1) rfl (by walk_at "VIS") (by decide)) (fa_cons (fe_var (i := 4) rfl (by walk_at "VIS") (by decide)) fa_nil)))))
      (fss_cons (fs_retNew (fn_lst (fa_cons fe_bl (fa_cons (fe_var (i := 4) rfl (by walk_at "VIS") (by decide)) (fa_cons (fe_var (i := 1) rfl (by walk_at "VIS") (by decide)) fa_nil)))))
    fss_nil)
      (fss_to fss_nil (by decide)))
    (fss_forget [4] (fss_cons (fs_retNew (fn_lst (fa_cons fe_bl (fa_cons (fe_var (i := 0) rfl (by walk_at "VIS") (by decide)) (fa_cons (fe_var (i := 1) rfl (by walk_at "VIS") (by decide)) fa_nil)))))
    fss_nil)))))))))))))))
theorem cal__law_spot (T : TX P w K mg) : CalK P w K mg base 1 "_law_spot" false 1 m__law_spot := calK_of (ps := ["_law_draw"]) (N := N__law_spot) (T.d__law_spot) T.g__law_spot sc__law_spot rfl rfl (fun _ _ _ _ _ _ us hl => match us, hl with | [_], _ => rfl) [] (fun cdv A outer s H E hr =>
    (fss_cons (fs_set (i := 1) sc__law_spot.nd rfl (by walk_at "LOC") (fe_op op_mod o_mod (fb_of (fe_callTy call_int1 l_int rfl T.z_int (by decide +kernel) (fba_cons (fb_var (i := 0) rfl (by walk_at "VIS")) fba_nil))) (fb_of fe_int)))
    (fss_forget [0] (fss_cons (fs_set (i := 2) sc__law_spot.nd rfl (by walk_at "LOC") (fe_tup (fa_cons (fe_op op_mod o_mod (fb_of (fe_op op_fdiv o_fdiv (fb_var (i := 1) rfl (by walk_at "VIS")) (fb_of fe_int))) (fb_of fe_int)) (fa_cons (fe_cmp (op_eqX (u64 hr)) o_eq (fb_of (fe_op op_mod o_mod (fb_of (fe_op op_fdiv o_fdiv (fb_var (i := 1) rfl (by walk_at "VIS")) (fb_of fe_int))) (fb_of fe_int))) (fb_of fe_int) (nomark _)) (fa_cons (fe_cmp (op_eqX (u64 hr)) o_eq (fb_of (fe_op op_mod o_mod (fb_of (fe_op op_fdiv o_fdiv (fb_var (i := 1) rfl (by walk_at "VIS")) (fb_of fe_int))) (fb_of fe_int))) (fb_of fe_int) (nomark _)) fa_nil)))))
    (fss_cons (fs_if (O' := []) (ft_cmp (op_eqX (u64 hr)) o_eq (fb_of (fe_op op_fdiv o_fdiv (fb_var (i := 1) rfl (by walk_at "VIS")) (fb_of fe_int))) (fb_of fe_int) (nomark _))
      (fss_to (fss_cons (fs_set (i := 2) sc__law_spot.nd rfl (by walk_at "LOC") fe_non)
    fss_nil) (by decide))
      (fss_to fss_nil (by decide)))
    (fss_cons (fs_ret (fe_tup (fa_cons (fe_var (i := 2) rfl (by walk_at "VIS") (by decide)) (fa_cons (fe_cmp (op_eqX (u64 hr)) o_eq (fb_of (fe_op op_mod o_mod (fb_var (i := 1) rfl (by walk_at "VIS")) (fb_of fe_int))) (fb_of fe_int) (nomark _)) fa_nil))))
    fss_nil))))))
theorem calhq__law_is_same' (T : TX P w K mg) : ∀ n : Nat, CalHQ P w K mg base (1 + n) "_law_is_same" 2 (m__law_is_same n)
  | 0 => calHQ_zero (ps := ["_law_got", "_law_due"]) T.d__law_is_same T.g__law_is_same (fun _ _ _ _ _ _ us hl => match us, hl with | [_, _], _ => rfl)
  | n + 1 => by
    have ih := calhq__law_is_same' T n
    exact calHQ_of (ps := ["_law_got", "_law_due"]) (N := N__law_is_same) (T.d__law_is_same) T.g__law_is_same sc__law_is_same rfl rfl (fun _ _ _ _ _ _ us hl => match us, hl with | [_, _], _ => rfl) [] (fun cdv A outer s H E a oe hr hot =>
    (fss_cons (fs_if (O' := []) (ft_w (fw_or (ft_val (fe_isi (T := "tuple") (by decide) rfl T.z_isinstance (by decide +kernel) rfl T.z_tuple (by decide +kernel) (fb_var (i := 1) rfl (by walk_at "VIS")))) (fw_or1 (ft_val (fe_isi (T := "list") (by decide) rfl T.z_isinstance (by decide +kernel) rfl T.z_list (by decide +kernel) (fb_var (i := 1) rfl (by walk_at "VIS")))))))
      (fss_cons (fs_if (O' := []) (ft_w (fw_and (ft_val (fe_isi (T := "tuple") (by decide) rfl T.z_isinstance (by decide +kernel) rfl T.z_tuple (by decide +kernel) (fb_var (i := 1) rfl (by walk_at "VIS")))) (fw_and1 (ft_not (ft_val (fe_isi (T := "tuple") (by decide) rfl T.z_isinstance (by decide +kernel) rfl T.z_tuple (by decide +kernel) (fb_var (i := 0) rfl (by walk_at "VIS"))))))))
      (fss_cons (fs_ret fe_bl)
    fss_nil)
      (fss_to fss_nil (by decide)))
    (fss_cons (fs_if (O' := []) (ft_w (fw_and (ft_val (fe_isi (T := "list") (by decide) rfl T.z_isinstance (by decide +kernel) rfl T.z_list (by decide +kernel) (fb_var (i := 1) rfl (by walk_at "VIS")))) (fw_and1 (ft_not (ft_val (fe_isi (T := "list") (by decide) rfl T.z_isinstance (by decide +kernel) rfl T.z_list (by decide +kernel) (fb_var (i := 0) rfl (by walk_at "VIS"))))))))
      (fss_cons (fs_ret fe_bl)
    fss_nil)
      (fss_to fss_nil (by decide)))
    (fss_cons (fs_if (O' := []) (ft_cmp (op_neX (u64h hr)) o_ne (fb_of (fe_callB c_len l_len rfl T.z_len (by decide +kernel) (fba_cons (fb_var (i := 0) rfl (by walk_at "VIS")) fba_nil))) (fb_of (fe_callB c_len l_len rfl T.z_len (by decide +kernel) (fba_cons (fb_var (i := 1) rfl (by walk_at "VIS")) fba_nil))) (nomark _))
      (fss_cons (fs_ret fe_bl)
    fss_nil)
      (fss_to fss_nil (by decide)))
    (fss_cons (fs_forH PassesOwn.never hot (fih_rng1 rfl T.z_range (fa_cons (fe_callB c_len l_len rfl T.z_len (by decide +kernel) (fba_cons (fb_var (i := 1) rfl (by walk_at "VIS")) fba_nil)) fa_nil)) (fg_name (i := 2) sc__law_is_same.nd rfl (by walk_at "LOC"))
      (fss_to (fss_cons (fs_if (O' := []) (ft_not (ft_val (fe_callQ ih hot hr (Nat.le_refl _) rfl (fa_cons (fe_ix ix_seq o_ix (fb_var (i := 0) rfl (by walk_at "VIS")) (fb_var (i := 2) rfl (by walk_at "VIS")) (fun _ _ => rfl)) (fa_cons (fe_ix ix_seq o_ix (fb_var (i := 1) rfl (by walk_at "VIS")) (fb_var (i := 2) rfl (by walk_at "VIS")) (fun _ _ => rfl)) fa_nil)))))
      (fss_cons (fs_ret fe_bl)
    fss_nil)
      (fss_to fss_nil (by decide)))
    fss_nil) (by decide)))
    (fss_cons (fs_ret fe_bl)
    fss_nil)))))
      (fss_to fss_nil (by decide)))
    (fss_forget [2] (fss_cons (fs_if (O' := []) (ft_cmp op_isX o_is (fb_var (i := 1) rfl (by walk_at "VIS")) (fb_of fe_non) (nomark _))
      (fss_cons (fs_ret (fe_cmp op_isX o_is (fb_var (i := 0) rfl (by walk_at "VIS")) (fb_of fe_non) (nomark _)))
    fss_nil)
      (fss_to fss_nil (by decide)))
    (fss_cons (fs_if (O' := []) (ft_val (fe_isi (T := "bool") (by decide) rfl T.z_isinstance (by decide +kernel) rfl T.z_bool (by decide +kernel) (fb_var (i := 1) rfl (by walk_at "VIS"))))
      (fss_cons (fs_ret (fe_and (fe_isi (T := "bool") (by decide) rfl T.z_isinstance (by decide +kernel) rfl T.z_bool (by decide +kernel) (fb_var (i := 0) rfl (by walk_at "VIS"))) (fe_one (fe_cmp (op_eqX (u64h hr)) o_eq (fb_var (i := 0) rfl (by walk_at "VIS")) (fb_var (i := 1) rfl (by walk_at "VIS")) (nomark _)))))
    fss_nil)
      (fss_to fss_nil (by decide)))
    (fss_cons (fs_if (O' := []) (ft_val (fe_isi (T := "int") (by decide) rfl T.z_isinstance (by decide +kernel) rfl T.z_int (by decide +kernel) (fb_var (i := 1) rfl (by walk_at "VIS"))))
      (fss_cons (fs_ret (fe_and (fe_isi (T := "int") (by decide) rfl T.z_isinstance (by decide +kernel) rfl T.z_int (by decide +kernel) (fb_var (i := 0) rfl (by walk_at "VIS"))) (fe_and (fe_not (fe_isi (T := "bool") (by decide) rfl T.z_isinstance (by decide +kernel) rfl T.z_bool (by decide +kernel) (fb_var (i := 0) rfl (by walk_at "VIS")))) (fe_one (fe_cmp (op_eqX (u64h hr)) o_eq (fb_var (i := 0) rfl (by walk_at "VIS")) (fb_var (i := 1) rfl (by walk_at "VIS")) (nomark _))))))
    fss_nil)
      (fss_to fss_nil (by decide)))
    (fss_cons (fs_ret (fe_and (fe_isi (T := "str") (by decide) rfl T.z_isinstance (by decide +kernel) rfl T.z_str (by decide +kernel) (fb_var (i := 0) rfl (by walk_at "VIS"))) (fe_one (fe_cmp (op_eqX (u64h hr)) o_eq (fb_var (i := 0) rfl (by walk_at "VIS")) (fb_var (i := 1) rfl (by walk_at "VIS")) (nomark _)))))
    fss_nil)))))))
theorem calhq__law_is_same (T : TX P w K mg) : CalHQ P w K mg base 7 "_law_is_same" 2 (m__law_is_same 6) := calhq__law_is_same' T 6
theorem cal__law_is_same' (T : TX P w K mg) : ∀ n : Nat, CalK P w K mg base (1 + n) "_law_is_same" false 2 (m__law_is_same n)
  | 0 => calK_zero (ps := ["_law_got", "_law_due"]) T.d__law_is_same T.g__law_is_same (fun _ _ _ _ _ _ us hl => match us, hl with | [_, _], _ => rfl)
  | n + 1 => by
    have ih := cal__law_is_same' T n
    exact calK_of (ps := ["_law_got", "_law_due"]) (N := N__law_is_same) (T.d__law_is_same) T.g__law_is_same sc__law_is_same rfl rfl (fun _ _ _ _ _ _ us hl => match us, hl with | [_, _], _ => rfl) [] (fun cdv A outer s H E hr =>
    (fss_cons (fs_if (O' := []) (ft_w (fw_or (ft_val (fe_isi (T := "tuple") (by decide) rfl T.z_isinstance (by decide +kernel) rfl T.z_tuple (by decide +kernel) (fb_var (i := 1) rfl (by walk_at "VIS")))) (fw_or1 (ft_val (fe_isi (T := "list") (by decide) rfl T.z_isinstance (by decide +kernel) rfl T.z_list (by decide +kernel) (fb_var (i := 1) rfl (by walk_at "VIS")))))))
      (fss_cons (fs_if (O' := []) (ft_w (fw_and (ft_val (fe_isi (T := "tuple") (by decide) rfl T.z_isinstance (by decide +kernel) rfl T.z_tuple (by decide +kernel) (fb_var (i := 1) rfl (by walk_at "VIS")))) (fw_and1 (ft_not (ft_val (fe_isi (T := "tuple") (by decide) rfl T.z_isinstance (by decide +kernel) rfl T.z_tuple (by decide +kernel) (fb_var (i := 0) rfl (by walk_at "VIS"))))))))
      (fss_cons (fs_ret fe_bl)
    fss_nil)
      (fss_to fss_nil (by decide)))
    (fss_cons (fs_if (O' := []) (ft_w (fw_and (ft_val (fe_isi (T := "list") (by decide) rfl T.z_isinstance (by decide +kernel) rfl T.z_list (by decide +kernel) (fb_var (i := 1) rfl (by walk_at "VIS")))) (fw_and1 (ft_not (ft_val (fe_isi (T := "list") (by decide) rfl T.z_isinstance (by decide +kernel) rfl T.z_list (by decide +kernel) (fb_var (i := 0) rfl (by walk_at "VIS"))))))))
      (fss_cons (fs_ret fe_bl)
    fss_nil)
      (fss_to fss_nil (by decide)))
    (fss_cons (fs_if (O' := []) (ft_cmp (op_neX (u64 hr)) o_ne (fb_of (fe_callB c_len l_len rfl T.z_len (by decide +kernel) (fba_cons (fb_var (i := 0) rfl (by walk_at "VIS")) fba_nil))) (fb_of (fe_callB c_len l_len rfl T.z_len (by decide +kernel) (fba_cons (fb_var (i := 1) rfl (by walk_at "VIS")) fba_nil))) (nomark _))
      (fss_cons (fs_ret fe_bl)
    fss_nil)
      (fss_to fss_nil (by decide)))
    (fss_cons (fs_for PassesOwn.never rfl (fi_rng1 rfl T.z_range (fa_cons (fe_callB c_len l_len rfl T.z_len (by decide +kernel) (fba_cons (fb_var (i := 1) rfl (by walk_at "VIS")) fba_nil)) fa_nil)) (fg_name (i := 2) sc__law_is_same.nd rfl (by walk_at "LOC"))
      (fss_to (fss_cons (fs_if (O' := []) (ft_not (ft_val (fe_call ih hr (Nat.le_refl _) rfl (fa_cons (fe_ix ix_seq o_ix (fb_var (i := 0) rfl (by walk_at "VIS")) (fb_var (i := 2) rfl (by walk_at "VIS")) (fun _ _ => rfl)) (fa_cons (fe_ix ix_seq o_ix (fb_var (i := 1) rfl (by walk_at "VIS")) (fb_var (i := 2) rfl (by walk_at "VIS")) (fun _ _ => rfl)) fa_nil)))))
      (fss_cons (fs_ret fe_bl)
    fss_nil)
      (fss_to fss_nil (by decide)))
    fss_nil) (by decide)))
    (fss_cons (fs_ret fe_bl)
    fss_nil)))))
      (fss_to fss_nil (by decide)))
    (fss_forget [2] (fss_cons (fs_if (O' := []) (ft_cmp op_isX o_is (fb_var (i := 1) rfl (by walk_at "VIS")) (fb_of fe_non) (nomark _))
      (fss_cons (fs_ret (fe_cmp op_isX o_is (fb_var (i := 0) rfl (by walk_at "VIS")) (fb_of fe_non) (nomark _)))
    fss_nil)
      (fss_to fss_nil (by decide)))
    (fss_cons (fs_if (O' := []) (ft_val (fe_isi (T := "bool") (by decide) rfl T.z_isinstance (by decide +kernel) rfl T.z_bool (by decide +kernel) (fb_var (i := 1) rfl (by walk_at "VIS"))))
      (fss_cons (fs_ret (fe_and (fe_isi (T := "bool") (by decide) rfl T.z_isinstance (by decide +kernel) rfl T.z_bool (by decide +kernel) (fb_var (i := 0) rfl (by walk_at "VIS"))) (fe_one (fe_cmp (op_eqX (u64 hr)) o_eq (fb_var (i := 0) rfl (by walk_at "VIS")) (fb_var (i := 1) rfl (by walk_at "VIS")) (nomark _)))))
    fss_nil)
      (fss_to fss_nil (by decide)))
    (fss_cons (fs_if (O' := []) (ft_val (fe_isi (T := "int") (by decide) rfl T.z_isinstance (by decide +kernel) rfl T.z_int (by decide +kernel) (fb_var (i := 1) rfl (by walk_at "VIS"))))
      (fss_cons (fs_ret (fe_and (fe_isi (T := "int") (by decide) rfl T.z_isinstance (by decide +kernel) rfl T.z_int (by decide +kernel) (fb_var (i := 0) rfl (by walk_at "VIS"))) (fe_and (fe_not (fe_isi (T := "bool") (by decide) rfl T.z_isinstance (by decide +kernel) rfl T.z_bool (by decide +kernel) (fb_var (i := 0) rfl (by walk_at "VIS")))) (fe_one (fe_cmp (op_eqX (u64 hr)) o_eq (fb_var (i := 0) rfl (by walk_at "VIS")) (fb_var (i := 1) rfl (by walk_at "VIS")) (nomark _))))))
    fss_nil)
      (fss_to fss_nil (by decide)))
    (fss_cons (fs_ret (fe_and (fe_isi (T := "str") (by decide) rfl T.z_isinstance (by decide +kernel) rfl T.z_str (by decide +kernel) (fb_var (i := 0) rfl (by walk_at "VIS"))) (fe_one (fe_cmp (op_eqX (u64 hr)) o_eq (fb_var (i := 0) rfl (by walk_at "VIS")) (fb_var (i := 1) rfl (by walk_at "VIS")) (nomark _)))))
    fss_nil)))))))
theorem cal__law_is_same (T : TX P w K mg) : CalK P w K mg base 7 "_law_is_same" false 2 (m__law_is_same 6) := cal__law_is_same' T 6
theorem cal__law_does (T : TX P w K mg) : CalE P w K mg base 3 "_law_does" 3 m__law_does := calE_of (ps := ["_law_fields", "_law_closed", "_law_request"]) (N := N__law_does) (T.d__law_does) T.g__law_does sc__law_does rfl rfl (fun _ _ _ _ _ _ us hl => match us, hl with | [_, _, _], _ => rfl) [] (fun cdv A outer s H E hr =>
    (mss_cons (ms_pure (fs_set (i := 3) sc__law_does.nd rfl (by walk_at "LOC") (fe_ix ix_seq o_ix (fb_var (i := 2) rfl (by walk_at "VIS")) (fb_of fe_int) (fun _ _ => rfl))))
    (mss_cons (ms_if (O' := []) (mt_pure (ft_cmp (op_eqX (u64 hr)) o_eq (fb_var (i := 3) rfl (by walk_at "VIS")) (fb_of fe_str) (nomark _)))
      (mss_cons (ms_ret (me_look (fe_callTy call_tuple_of l_tup rfl T.z_tuple (by decide +kernel) (fba_cons (fb_of (fe_of_fn (fn_lstD rfl (fe_var (i := 0) rfl (by walk_at "VIS") (by decide)) rfl T.z_list (by decide +kernel)))) fba_nil))))
    mss_nil)
      (mss_to mss_nil (by decide)))
    (mss_cons (ms_pure (fs_set (i := 4) sc__law_does.nd rfl (by walk_at "LOC") fe_non))
    (mss_cons (ms_if (O' := []) (mt_pure (ft_cmp (op_ninX (u65 hr)) o_nin (fb_var (i := 3) rfl (by walk_at "VIS")) (fb_of (fe_of_fn (fn_lst (fa_cst (by kernel_rfl))))) (by with_unfolding_all rfl)))
      (mss_to (mss_cons (ms_set (i := 4) sc__law_does.nd rfl (by walk_at "LOC") (me_look (fe_dgetN (u64 hr) (fe_var (i := 0) rfl (by walk_at "VIS") (by decide)) (fe_ix ix_seq o_ix (fb_var (i := 2) rfl (by walk_at "VIS")) (fb_of fe_int) (fun _ _ => rfl)))))
    mss_nil) (by decide))
      (mss_to mss_nil (by decide)))
    (mss_forget [3] (mss_cons (ms_set (i := 5) sc__law_does.nd rfl (by walk_at "LOC") (me_lookN (fn_call (cal__law_act T) hr (by decide) rfl (fa_cons (fe_var (i := 4) rfl (by walk_at "VIS") (by decide)) (fa_cons (fe_ix ix_seq o_ix (fb_var (i := 1) rfl (by walk_at "VIS")) (fb_of fe_int) (fun _ _ => rfl)) (fa_cons (fe_var (i := 2) rfl (by walk_at "VIS") (by decide)) fa_nil))))))
    (mss_cons (ms_putI (i := 1) rfl (by walk_at "VIS") (by decide) (me_pure (fe_ix ix_seq o_ix (fb_var (i := 5) rfl (by walk_at "VIS")) (fb_of fe_int) (fun _ _ => rfl))) fe_int)
    (mss_forget [1] (mss_cons (ms_if (O' := []) (mt_pure (ft_w (fw_and (ft_cmp op_isntX o_isnt (fb_of (fe_ix ix_seq o_ix (fb_var (i := 5) rfl (by walk_at "VIS")) (fb_of fe_int) (fun _ _ => rfl))) (fb_of fe_non) (nomark _)) (fw_and1 (ft_cmp (op_neX (u64 hr)) o_ne (fb_var (i := 4) rfl (by walk_at "VIS")) (fb_of (fe_ix ix_seq o_ix (fb_var (i := 5) rfl (by walk_at "VIS")) (fb_of fe_int) (fun _ _ => rfl))) (nomark _))))))
      (mss_to (mss_cons (ms_dput (i := 0) (u64 hr) rfl (by walk_at "VIS") (by decide) (me_pure (fe_ix ix_seq o_ix (fb_var (i := 5) rfl (by walk_at "VIS")) (fb_of fe_int) (fun _ _ => rfl))) (fe_ix ix_seq o_ix (fb_var (i := 2) rfl (by walk_at "VIS")) (fb_of fe_int) (fun _ _ => rfl)))
    mss_nil) (by decide))
      (mss_to mss_nil (by decide)))
    (mss_cons (ms_if (O' := []) (mt_pure (ft_w (fw_and (ft_cmp op_isX o_is (fb_of (fe_ix ix_seq o_ix (fb_var (i := 5) rfl (by walk_at "VIS")) (fb_of fe_int) (fun _ _ => rfl))) (fb_of fe_non) (nomark _)) (fw_and1 (ft_cmp op_isntX o_isnt (fb_var (i := 4) rfl (by walk_at "VIS")) (fb_of fe_non) (nomark _))))))
      (mss_to (mss_cons (ms_dpop (i := 0) rfl (by walk_at "VIS") (by decide) (fe_ix ix_seq o_ix (fb_var (i := 2) rfl (by walk_at "VIS")) (fb_of fe_int) (fun _ _ => rfl)))
    mss_nil) (by decide))
      (mss_to mss_nil (by decide)))
    (mss_forget [0, 2, 4] (mss_cons (ms_pure (fs_ret (fe_ix ix_seq o_ix (fb_var (i := 5) rfl (by walk_at "VIS")) (fb_of fe_int) (fun _ _ => rfl))))
    mss_nil)))))))))))))
theorem cal__law_starts (T : TX P w K mg) : CalK P w K mg base 2 "_law_starts" false 1 m__law_starts := calK_of (ps := ["_law_draws_here"]) (N := N__law_starts) (T.d__law_starts) T.g__law_starts sc__law_starts rfl rfl (fun _ _ _ _ _ _ us hl => match us, hl with | [_], _ => rfl) [] (fun cdv A outer s H E hr =>
    (fss_cons (fs_setNew (i := 1) sc__law_starts.nd rfl (by walk_at "LOC") (fn_lst fa_nil))
    (fss_cons (fs_for PassesOwn.never rfl (fi_rng1 rfl T.z_range (fa_cons (fe_op op_mod o_mod (fb_of (fe_callTy call_int1 l_int rfl T.z_int (by decide +kernel) (fba_cons (fb_of (fe_ix ix_seq o_ix (fb_var (i := 0) rfl (by walk_at "VIS")) (fb_of fe_int) (fun _ _ => rfl))) fba_nil))) (fb_of fe_int)) fa_nil)) (fg_name (i := 2) sc__law_starts.nd rfl (by walk_at "LOC"))
      (fss_to (fss_cons (fs_set (i := 3) sc__law_starts.nd rfl (by walk_at "LOC") (fe_ix ix_seq o_ix (fb_of (fe_call (cal__law_spot T) hr (by decide) rfl (fa_cons (fe_ix ix_seq o_ix (fb_var (i := 0) rfl (by walk_at "VIS")) (fb_of (fe_op op_addX o_add (fb_of fe_int) (fb_var (i := 2) rfl (by walk_at "VIS")))) (fun _ _ => rfl)) fa_nil))) (fb_of fe_int) (fun _ _ => rfl)))
    (fss_cons (fs_set (i := 4) sc__law_starts.nd rfl (by walk_at "LOC") (fe_ix ix_seq o_ix (fb_of fe_str) (fb_of (fe_op op_mod o_mod (fb_of (fe_callTy call_int1 l_int rfl T.z_int (by decide +kernel) (fba_cons (fb_of (fe_op op_addX o_add (fb_of (fe_op op_fdiv o_fdiv (fb_of (fe_ix ix_seq o_ix (fb_var (i := 0) rfl (by walk_at "VIS")) (fb_of fe_int) (fun _ _ => rfl))) (fb_of fe_int))) (fb_of (fe_op op_mul o_mul (fb_var (i := 2) rfl (by walk_at "VIS")) (fb_of (fe_ix ix_seq o_ix (fb_of (fe_of_fn (fn_lst (fa_cst (by kernel_rfl))))) (fb_of (fe_op op_mod o_mod (fb_of (fe_callTy call_int1 l_int rfl T.z_int (by decide +kernel) (fba_cons (fb_of (fe_op op_fdiv o_fdiv (fb_of (fe_ix ix_seq o_ix (fb_var (i := 0) rfl (by walk_at "VIS")) (fb_of fe_int) (fun _ _ => rfl))) (fb_of fe_int))) fba_nil))) (fb_of fe_int))) (fun _ _ => rfl))))))) fba_nil))) (fb_of fe_int))) (fun _ _ => rfl)))
    (fss_cons (fs_if (O' := [1]) (ft_cmp op_isntX o_isnt (fb_var (i := 3) rfl (by walk_at "VIS")) (fb_of fe_non) (nomark _))
      (fss_to (fss_cons (fs_mut (i := 1) rfl (by walk_at "VIS") (by decide) PySem.F.slot_list_append PySem.F.type_list_append mt_append r_append (fa_cons (fe_tup (fa_cons (fe_var (i := 4) rfl (by walk_at "VIS") (by decide)) (fa_cons (fe_ix ix_seq o_ix (fb_var (i := 3) rfl (by walk_at "VIS")) (fb_of fe_int) (fun _ _ => rfl)) (fa_cons (fe_ix ix_seq o_ix (fb_var (i := 3) rfl (by walk_at "VIS")) (fb_of fe_int) (fun _ _ => rfl)) (fa_cons (fe_ix ix_seq o_ix (fb_var (i := 3) rfl (by walk_at "VIS")) (fb_of fe_int) (fun _ _ => rfl)) fa_nil))))) fa_nil))
    fss_nil) (by decide))
      (fss_to fss_nil (by decide)))
    fss_nil))) (by decide)))
    (fss_forget [0, 2, 3, 4] (fss_cons (fs_frz (O1 := []) (fs_ret (fe_var (i := 1) rfl (by walk_at "VIS") (by decide))) (by decide))
    fss_nil)))))
theorem calhe__law_is_refusal (T : TX P w K mg) : CalHE P w K mg base 8 "_law_is_refusal" "Refused" ["deed"] 2 me__law_is_refusal := calHE_of (p0 := "_law_e") (ps := ["_law_request"]) (N := N__law_is_refusal) T.d__law_is_refusal T.g__law_is_refusal sc__law_is_refusal rfl rfl (fun _ _ _ _ _ _ us hl => match us, hl with | [_, _], _ => rfl) (fun cdv A outer s H E hr xd =>
    (fshs_ifm (fth_wm (fwh_orm (fth_notm (fth_valm (feh_isim (i := 0) rfl (by walk_at "VIS") T.ec_Refused.1 rfl T.z_isinstance (by decide +kernel) (fun _ _ _ => pe_glob rfl T.gx_Refused (v := .ref (He.ga K "Refused")) rfl) (fun u h => h) T.xk_Refused_Refused))) (fwh_orm (fth_notm (fth_valm (feh_isim (i := 0) rfl (by walk_at "VIS") T.ec_Refused.1 rfl T.z_isinstance (by decide +kernel) (fun _ _ _ => pe_bltn rfl T.z_ValueError (v := .ty "ValueError") (u := .type "ValueError") (by decide +kernel) rfl) (fun u h => h) T.xt_Refused_ValueError))) (fwh_orm (fth_valm (feh_isim (i := 0) rfl (by walk_at "VIS") T.ec_Refused.1 rfl T.z_isinstance (by decide +kernel) (fun _ _ _ => pe_glob rfl T.gx_Lie (v := .ref (He.ga K "Lie")) rfl) (fun u h => h) T.xk_Refused_Lie)) (fwh_or1m (fth_valm (feh_isim (i := 0) rfl (by walk_at "VIS") T.ec_Refused.1 rfl T.z_isinstance (by decide +kernel) (fun _ _ _ => pe_glob rfl T.gx_BadCheck (v := .ref (He.ga K "BadCheck")) rfl) (fun u h => h) T.xk_Refused_BadCheck))))))) (fshs_retm (feh_ofm fun _ _ _ => fe_str))
      (fshs_ifm (fth_wm (fwh_orm (fth_valm (feh_isim (i := 0) rfl (by walk_at "VIS") T.ec_Refused.1 rfl T.z_isinstance (by decide +kernel) (fun _ _ _ => pe_glob rfl T.gx_BadAnswer (v := .ref (He.ga K "BadAnswer")) rfl) (fun u h => h) T.xk_Refused_BadAnswer)) (fwh_orm (fth_valm (feh_isim (i := 0) rfl (by walk_at "VIS") T.ec_Refused.1 rfl T.z_isinstance (by decide +kernel) (fun _ _ _ => pe_glob rfl T.gx_Promise (v := .ref (He.ga K "Promise")) rfl) (fun u h => h) T.xk_Refused_Promise)) (fwh_or1m (fth_valm (feh_isim (i := 0) rfl (by walk_at "VIS") T.ec_Refused.1 rfl T.z_isinstance (by decide +kernel) (fun _ _ _ => pe_glob rfl T.gx_Unfair (v := .ref (He.ga K "Unfair")) rfl) (fun u h => h) T.xk_Refused_Unfair)))))) (fshs_retm (feh_ofm fun _ _ _ => fe_str))
      (fshs_retm (feh_ixm (fun _ _ _ => ix_seq) o_ix (feh_ofm fun _ _ _ => (fe_of_fn (fn_lst (fa_cst (by kernel_rfl))))) (feh_callTym (fun _ _ _ => call_int1) l_int rfl T.z_int (by decide +kernel) (fah_consm (feh_callQ (calhq__law_is_same T) hr (by decide) rfl (fah_consm (feh_fldm (i := 0) (x := ⟨"Refused", ["deed"], xd⟩) (n := "_law_e") (f := "deed") rfl (by walk_at "VIS") T.ec_Refused.2 T.x_Refused.noF rfl) (fah_consm (feh_ofm fun _ _ _ => (fe_var (i := 1) rfl (by walk_at "VIS") (by decide))) fah_nilm))) fah_nilm)) (fun _ _ => rfl))))))
theorem cal__law_assigns (T : TX P w K mg) : CalE P w K mg base 9 "_law_assigns" 3 m__law_assigns := calE_of (ps := ["_law_thing", "_law_label", "_law_value"]) (N := N__law_assigns) (T.d__law_assigns) T.g__law_assigns sc__law_assigns rfl rfl (fun _ _ _ _ _ _ us hl => match us, hl with | [_, _, _], _ => rfl) [] (fun cdv A outer s H E hr =>
    (mss_cons (ms_tryX (O' := []) (O1 := []) rfl rfl sc__law_assigns.nd rfl rfl ⟨rfl, by decide +kernel, .inl T.gx_StandInError⟩ T.xm_Refused_StandInError (by decide) (mss_cons (ms_setOwn (cal_Thing___setitem__ T) T.q_Thing hr (by decide) (fe_var (i := 2) rfl (by walk_at "VIS") (by decide)) (fe_var (i := 0) rfl (by walk_at "VIS") (by decide)) (fe_var (i := 1) rfl (by walk_at "VIS") (by decide)))
    mss_nil)
      (fun W pn xe tk => (mxs_hd (mx_setOwn (calmx_Thing___setitem__ T) T.q_Thing hr (by decide) tk (fe_var (i := 2) rfl (by walk_at "VIS") (by decide)) (fe_var (i := 0) rfl (by walk_at "VIS") (by decide)) (fe_var (i := 1) rfl (by walk_at "VIS") (by decide)))))
      (fun xd => (fshs_retm (feh_callP (calhe__law_is_refusal T) hr (by decide) rfl (i := 3) rfl (by walk_at "VIS") (fah_consm (feh_ofm fun _ _ _ => (fe_tup (fa_cons fe_str (fa_cons (fe_var (i := 1) rfl (by walk_at "VIS") (by decide)) (fa_cons (fe_var (i := 2) rfl (by walk_at "VIS") (by decide)) fa_nil))))) fah_nilm)))))
    (mss_forget [0, 1, 2] (mss_cons (ms_pure (fs_ret fe_str))
    mss_nil))))
theorem cal__law_looks (T : TX P w K mg) : CalK P w K mg base 8 "_law_looks" false 4 m__law_looks := calK_of (ps := ["_law_thing", "_law_label", "_law_fields", "_law_closed"]) (N := N__law_looks) (T.d__law_looks) T.g__law_looks sc__law_looks rfl rfl (fun _ _ _ _ _ _ us hl => match us, hl with | [_, _, _, _], _ => rfl) [] (fun cdv A outer s H E hr =>
    (fss_cons (fs_set (i := 4) sc__law_looks.nd rfl (by walk_at "LOC") fe_non)
    (fss_cons (fs_if (O' := []) (ft_din (u64 hr) (fe_var (i := 1) rfl (by walk_at "VIS") (by decide)) (fe_var (i := 2) rfl (by walk_at "VIS") (by decide)))
      (fss_to (fss_cons (fs_set (i := 4) sc__law_looks.nd rfl (by walk_at "LOC") (fe_ix ix_seq o_ix (fb_of (fe_dget (u64 hr) (fe_var (i := 2) rfl (by walk_at "VIS") (by decide)) (fe_var (i := 1) rfl (by walk_at "VIS") (by decide)))) (fb_of fe_int) (fun _ _ => rfl)))
    fss_nil) (by decide))
      (fss_to fss_nil (by decide)))
    (fss_cons (fs_if (O' := []) (ft_w (fw_or (ft_not (ft_val (fe_call (cal__law_is_same T) hr (by decide) rfl (fa_cons (fe_ixI (cal_Thing___getitem__ T) T.m_Thing___getitem__ (fnIn_of T.d_Thing___getitem__) hr (by decide) (fe_var (i := 0) rfl (by walk_at "VIS") (by decide)) (fe_var (i := 1) rfl (by walk_at "VIS") (by decide))) (fa_cons (fe_var (i := 4) rfl (by walk_at "VIS") (by decide)) fa_nil))))) (fw_or1 (ft_not (ft_val (fe_call (cal__law_is_same T) hr (by decide) rfl (fa_cons (fe_cmp (op_inI (cal_Thing___contains__ T) hr (by decide)) o_inI (fb_var (i := 1) rfl (by walk_at "VIS")) (fb_var (i := 0) rfl (by walk_at "VIS")) (by with_unfolding_all rfl)) (fa_cons (fe_din (u64 hr) (fe_var (i := 1) rfl (by walk_at "VIS") (by decide)) (fe_var (i := 2) rfl (by walk_at "VIS") (by decide))) fa_nil))))))))
      (fss_cons (fs_ret fe_bl)
    fss_nil)
      (fss_to fss_nil (by decide)))
    (fss_forget [1, 4] (fss_cons (fs_if (O' := []) (ft_not (ft_val (fe_call (cal__law_is_same T) hr (by decide) rfl (fa_cons (fe_of_fn (fn_lcO (i0 := 0) (own := [("_law_one", 5)]) (tgs := [5]) (cal_Thing___iter__ T) hr (by decide) rfl (by walk_at "VIS") (by decide) rfl sc__law_looks.nd (blkOk_by (N := N__law_looks) (sc := defScope s__law_looks) (own := [("_law_one", 5)]) (by decide +kernel)) (fun _ _ _ _ _ => (fg_name (i := 5) sc__law_looks.nd rfl (by walk_at "LOC"))) (fun _ _ _ _ _ => (fe_var (i := 5) rfl (by walk_at "VIS") (by decide))) (by decide))) (fa_cons (fe_of_fn (fn_lstD rfl (fe_var (i := 2) rfl (by walk_at "VIS") (by decide)) rfl T.z_list (by decide +kernel))) fa_nil)))))
      (fss_cons (fs_ret fe_bl)
    fss_nil)
      (fss_to fss_nil (by decide)))
    (fss_forget [2] (fss_cons (fs_ret (fe_and (fe_call (cal__law_is_same T) hr (by decide) rfl (fa_cons (fe_callTy (c_boolI (cal_Thing___bool__ T) hr (by decide)) o_boolI rfl T.z_bool (by decide +kernel) (fba_cons (fb_var (i := 0) rfl (by walk_at "VIS")) fba_nil)) (fa_cons (fe_ix ix_seq o_ix (fb_var (i := 3) rfl (by walk_at "VIS")) (fb_of fe_int) (fun _ _ => rfl)) fa_nil))) (fe_one (fe_call (cal__law_is_same T) hr (by decide) rfl (fa_cons (fe_prop (cal_Thing_is_shut T) hr (by decide) (fe_var (i := 0) rfl (by walk_at "VIS") (by decide))) (fa_cons (fe_ix ix_seq o_ix (fb_var (i := 3) rfl (by walk_at "VIS")) (fb_of fe_int) (fun _ _ => rfl)) fa_nil))))))
    fss_nil))))))))
theorem ok_law (T : TX P w K mg) {fd : FuncData} (F : FunD K "law" "law" (defArgs s_law) (defBody s_law) (defScope s_law) [] [] (He.ga K "law") fd) : FnOk P w K mg base CX0 10 (He.ga K "law") fd ["_law_script"] (spE K 1 m_law) :=
  fnOk_m (N := N_law) F sc_law rfl rfl [] (fun cdv A outer s H E hr =>
    (mss_cons (ms_pure (fs_set (i := 1) sc_law.nd rfl (by walk_at "LOC") (fe_of_fn (fn_lst fa_nil))))
    (mss_cons (ms_set (i := 2) sc_law.nd rfl (by walk_at "LOC") (me_newM0 (cal_Thing___init__ T).2 hr (by decide) rfl))
    (mss_cons (ms_if (O' := []) (mt_pure (ft_cmp (op_eqX (u64 hr)) o_eq (fb_of (fe_op op_mod o_mod (fb_of (fe_call (cal__law_cell T) hr (by decide) rfl (fa_cons (fe_var (i := 0) rfl (by walk_at "VIS") (by decide)) (fa_cons fe_int fa_nil)))) (fb_of fe_int))) (fb_of fe_int) (nomark _)))
      (mss_to (mss_cons (ms_pure (fs_set (i := 1) sc_law.nd rfl (by walk_at "LOC") (fe_call (cal__law_starts T) hr (by decide) rfl (fa_cons (fe_call (cal__law_draws T) hr (by decide) rfl (fa_cons (fe_op op_fdiv o_fdiv (fb_of (fe_call (cal__law_cell T) hr (by decide) rfl (fa_cons (fe_var (i := 0) rfl (by walk_at "VIS") (by decide)) (fa_cons fe_int fa_nil)))) (fb_of fe_int)) (fa_cons fe_int fa_nil))) fa_nil))))
    (mss_cons (ms_set (i := 2) sc_law.nd rfl (by walk_at "LOC") (me_newM (cal_Thing___init__ T).1 hr (by decide) rfl (ma_pure (fa_cons (fe_var (i := 1) rfl (by walk_at "VIS") (by decide)) fa_nil))))
    mss_nil)) (by decide))
      (mss_to mss_nil (by decide)))
    (mss_cons (ms_set (i := 3) sc_law.nd rfl (by walk_at "LOC") (me_dict fd_empty))
    (mss_cons (ms_forM PassesOwn.never rfl (mi_pure (fi_list (fe_var (i := 1) rfl (by walk_at "VIS") (by decide)))) (fg_name (i := 4) sc_law.nd rfl (by walk_at "LOC"))
      (mss_to (mss_cons (ms_dput (i := 3) (u64 hr) rfl (by walk_at "VIS") (by decide) (me_pure (fe_tup (fa_cons (fe_ix ix_seq o_ix (fb_var (i := 4) rfl (by walk_at "VIS")) (fb_of fe_int) (fun _ _ => rfl)) (fa_cons (fe_ix ix_seq o_ix (fb_var (i := 4) rfl (by walk_at "VIS")) (fb_of fe_int) (fun _ _ => rfl)) (fa_cons (fe_ix ix_seq o_ix (fb_var (i := 4) rfl (by walk_at "VIS")) (fb_of fe_int) (fun _ _ => rfl)) fa_nil))))) (fe_ix ix_seq o_ix (fb_var (i := 4) rfl (by walk_at "VIS")) (fb_of fe_int) (fun _ _ => rfl)))
    mss_nil) (by decide)))
    (mss_forget [1, 4] (mss_cons (ms_set (i := 5) sc_law.nd rfl (by walk_at "LOC") (me_list (fn_lst (fa_cons fe_bl fa_nil))))
    (mss_cons (ms_set (i := 6) sc_law.nd rfl (by walk_at "LOC") (me_list (fn_lst fa_nil)))
    (mss_cons (ms_forM PassesOwn.never rfl (mi_pure (fi_list (fe_call (cal__law_draws T) hr (by decide) rfl (fa_cons (fe_call (cal__law_cell T) hr (by decide) rfl (fa_cons (fe_var (i := 0) rfl (by walk_at "VIS") (by decide)) (fa_cons fe_int fa_nil))) (fa_cons (fe_op op_mod o_mod (fb_of (fe_call (cal__law_cell T) hr (by decide) rfl (fa_cons (fe_var (i := 0) rfl (by walk_at "VIS") (by decide)) (fa_cons fe_int fa_nil)))) (fb_of fe_int)) fa_nil))))) (fg_name (i := 7) sc_law.nd rfl (by walk_at "LOC"))
      (mss_to (mss_cons (ms_pure (fs_set (i := 8) sc_law.nd rfl (by walk_at "LOC") (fe_ix ix_seq o_ix (fb_of fe_str) (fb_of (fe_op op_mod o_mod (fb_of (fe_callTy call_int1 l_int rfl T.z_int (by decide +kernel) (fba_cons (fb_of (fe_op op_fdiv o_fdiv (fb_var (i := 7) rfl (by walk_at "VIS")) (fb_of fe_int))) fba_nil))) (fb_of fe_int))) (fun _ _ => rfl))))
    (mss_cons (ms_if (O' := []) (mt_look (ft_not (ft_val (fe_call (cal__law_looks T) hr (by decide) rfl (fa_cons (fe_var (i := 2) rfl (by walk_at "VIS") (by decide)) (fa_cons (fe_var (i := 8) rfl (by walk_at "VIS") (by decide)) (fa_cons (fe_var (i := 3) rfl (by walk_at "VIS") (by decide)) (fa_cons (fe_var (i := 5) rfl (by walk_at "VIS") (by decide)) fa_nil))))))))
      (mss_cons (ms_pure (fs_ret fe_bl))
    mss_nil)
      (mss_to mss_nil (by decide)))
    (mss_cons (ms_if (O' := []) (mt_pure (ft_cmp (op_eqX (u64 hr)) o_eq (fb_of (fe_op op_mod o_mod (fb_of (fe_callTy call_int1 l_int rfl T.z_int (by decide +kernel) (fba_cons (fb_of (fe_op op_fdiv o_fdiv (fb_var (i := 7) rfl (by walk_at "VIS")) (fb_of fe_int))) fba_nil))) (fb_of fe_int))) (fb_of fe_int) (nomark _)))
      (mss_to (mss_cons (ms_exM (me_call (cal__law_does T) hr (by decide) rfl (ma_cons (me_pure (fe_var (i := 3) rfl (by walk_at "VIS") (by decide))) (ma_cons (me_pure (fe_var (i := 5) rfl (by walk_at "VIS") (by decide))) (ma_cons (me_pure (fe_cst (by kernel_rfl))) ma_nil)))))
    (mss_cons (ms_mut (i := 6) rfl (by walk_at "VIS") (by decide) PySem.F.slot_list_append PySem.F.type_list_append mt_append r_append (ma_pure (fa_cons (fe_cst (by kernel_rfl)) fa_nil)))
    (mss_cons (ms_if (O' := []) (mt_cmp op_isntX o_isnt (me_meth (cal_Thing_ask T) hr (by decide) (fe_var (i := 2) rfl (by walk_at "VIS") (by decide)) (ma_pure (fa_cons (fe_cst (by kernel_rfl)) fa_nil))) (fb_of fe_bl) (nomark _))
      (mss_cons (ms_pure (fs_ret fe_bl))
    mss_nil)
      (mss_to mss_nil (by decide)))
    mss_nil))) (by decide))
      (mss_to (mss_cons (ms_pure (fs_set (i := 9) sc_law.nd rfl (by walk_at "LOC") (fe_tup (fa_cons fe_str (fa_cons (fe_var (i := 8) rfl (by walk_at "VIS") (by decide)) (fa_cons (fe_op op_mod o_mod (fb_of (fe_callTy call_int1 l_int rfl T.z_int (by decide +kernel) (fba_cons (fb_of (fe_op op_fdiv o_fdiv (fb_var (i := 7) rfl (by walk_at "VIS")) (fb_of fe_int))) fba_nil))) (fb_of fe_int)) fa_nil))))))
    (mss_cons (ms_set (i := 10) sc_law.nd rfl (by walk_at "LOC") (me_call (cal__law_does T) hr (by decide) rfl (ma_cons (me_pure (fe_var (i := 3) rfl (by walk_at "VIS") (by decide))) (ma_cons (me_pure (fe_var (i := 5) rfl (by walk_at "VIS") (by decide))) (ma_cons (me_pure (fe_var (i := 9) rfl (by walk_at "VIS") (by decide))) ma_nil)))))
    (mss_cons (ms_mut (i := 6) rfl (by walk_at "VIS") (by decide) PySem.F.slot_list_append PySem.F.type_list_append mt_append r_append (ma_pure (fa_cons (fe_tup (fa_cons (fe_var (i := 9) rfl (by walk_at "VIS") (by decide)) (fa_cons (fe_var (i := 10) rfl (by walk_at "VIS") (by decide)) fa_nil))) fa_nil)))
    (mss_cons (ms_if (O' := []) (mt_cmp (op_neX (u64 hr)) o_ne (me_call (cal__law_assigns T) hr (by decide) rfl (ma_cons (me_pure (fe_var (i := 2) rfl (by walk_at "VIS") (by decide))) (ma_cons (me_pure (fe_var (i := 8) rfl (by walk_at "VIS") (by decide))) (ma_cons (me_pure (fe_op op_mod o_mod (fb_of (fe_callTy call_int1 l_int rfl T.z_int (by decide +kernel) (fba_cons (fb_of (fe_op op_fdiv o_fdiv (fb_var (i := 7) rfl (by walk_at "VIS")) (fb_of fe_int))) fba_nil))) (fb_of fe_int))) ma_nil)))) (fb_of (fe_ix ix_seq o_ix (fb_of (fe_of_fn (fn_lst (fa_cst (by kernel_rfl))))) (fb_of (fe_callTy call_int1 l_int rfl T.z_int (by decide +kernel) (fba_cons (fb_var (i := 10) rfl (by walk_at "VIS")) fba_nil))) (fun _ _ => rfl))) (nomark _))
      (mss_cons (ms_pure (fs_ret fe_bl))
    mss_nil)
      (mss_to mss_nil (by decide)))
    mss_nil)))) (by decide)))
    mss_nil))) (by decide)))
    (mss_forget [0, 7, 8, 9, 10] (mss_cons (ms_ret (me_look (fe_and (fe_call (cal__law_looks T) hr (by decide) rfl (fa_cons (fe_var (i := 2) rfl (by walk_at "VIS") (by decide)) (fa_cons fe_str (fa_cons (fe_var (i := 3) rfl (by walk_at "VIS") (by decide)) (fa_cons (fe_var (i := 5) rfl (by walk_at "VIS") (by decide)) fa_nil))))) (fe_one (fe_call (cal__law_is_same T) hr (by decide) rfl (fa_cons (fe_prop (cal_Thing_history T) hr (by decide) (fe_var (i := 2) rfl (by walk_at "VIS") (by decide))) (fa_cons (fe_var (i := 6) rfl (by walk_at "VIS") (by decide)) fa_nil)))))))
    mss_nil))))))))))))
end
end LW
namespace LW
open PySem FL
/-! ### plain things: deeds -/
abbrev letters : List Str := (["a", "b", "c", "d", "e", "f", "g", "h"] : List String).map Str.ofString
abbrev Fl := Int × Bool × Bool
def fD : Option Fl → D | none => .non | some (v, c, g) => .tup [.int v, .bl c, .bl g]
inductive IsReq : D → Option Str → Prop
  | look (L : Str) : L ∈ letters → IsReq (.tup [.str "look", .str L]) (some L)
  | has (L : Str) : L ∈ letters → IsReq (.tup [.str "has", .str L]) (some L)
  | get (L : Str) : L ∈ letters → IsReq (.tup [.str "get", .str L]) (some L)
  | set (L : Str) (w : Int) : L ∈ letters → IsReq (.tup [.str "set", .str L, .int w]) (some L)
  | define (L : Str) (w : Int) (c g : Bool) : L ∈ letters → IsReq (.tup [.str "define", .str L, .int w, .bl c, .bl g]) (some L)
  | take (L : Str) : L ∈ letters → IsReq (.tup [.str "take", .str L]) (some L)
  | shut : IsReq (.tup [.str "shut"]) none
  | isshut : IsReq (.tup [.str "isshut"]) none
def nmD : Option Str → D | none => .non | some L => .str L
structure Act (r : D) (fo : Option Fl) (sh : Bool) (ans : D) (fo' : Option Fl) (sh' : Bool) : Prop where
  p : m_act [.tup [fD fo, .bl sh], r] = some (.tup [ans, .tup [fD fo', .bl sh']])
  l : m__law_act [fD fo, .bl sh, r] = some (.lst [ans, fD fo', .bl sh'])
  ok : okS 4 ans = true
  ni : noIns ans = true
def doneB (F : D) (s : Bool) (w : Int) (c2 g2 : Bool) : Bool := match F with
  | .tup [.int v, .bl c, .bl g] => g || (!g2 && (c || deq (.tup [.int v, .bl c, .bl g]) (.tup [.int w, .bl c2, .bl g2])))
  | _ => !s
section
variable (fo : Option Fl) (s : Bool) (L : Str) (w : Int) (c2 g2 : Bool)
end
theorem okS_fD (fo : Option Fl) : okS 4 (fD fo) = true := by rcases fo with _ | ⟨v, c, g⟩ <;> rfl
theorem noIn_fD (fo : Option Fl) : noIns (fD fo) = true := by rcases fo with _ | ⟨v, c, g⟩ <;> rfl
theorem req_ne {r : D} {nm : Option Str} (h : IsReq r nm) : eqD r (.tup [.str "names"]) = some (.bl false) := by
  cases h with
  | look L h | has L h | get L h | take L h | set L w h | define L w c g h =>
    simp only [letters, List.map_cons, List.map_nil, List.mem_cons, List.not_mem_nil, or_false] at h
    rcases h with rfl | rfl | rfl | rfl | rfl | rfl | rfl | rfl <;> kernel_rfl
  | shut => kernel_rfl
  | isshut => kernel_rfl
theorem req_tup {r : D} {nm : Option Str} (h : IsReq r nm) : ∃ k xs, r = .tup (.str k :: xs) := by
  cases h <;> exact ⟨_, _, rfl⟩
/-! ### dicts of fields, as lists -/
abbrev FL2 := List (Str × Fl)
def ksL (L : FL2) : List Str := L.map (·.1)
def xsL (L : FL2) : List D := L.map fun p => fD (some p.2)
def fnd (k : Str) : FL2 → Option Fl
  | [] => none
  | p :: t => if p.1 = k then some p.2 else fnd k t
def ins (k : Str) (f : Fl) (L : FL2) : FL2 := if (fnd k L).isSome = true then L.map (fun p => if p.1 = k then (p.1, f) else p) else L ++ [(k, f)]
def del (k : Str) : FL2 → FL2
  | [] => []
  | p :: t => if p.1 = k then del k t else p :: del k t
def updL (k : Str) (fo : Option Fl) (L : FL2) : FL2 := match fo with | some f => ins k f L | none => del k L
theorem len_L (L : FL2) : (ksL L).length = (xsL L).length := by simp [ksL, xsL]
theorem dget_L (k : Str) : ∀ L : FL2, dget k (ksL L) (xsL L) = (fnd k L).map fun f => fD (some f)
  | [] => rfl
  | p :: t => by
    show (if p.1 = k then some (fD (some p.2)) else dget k (ksL t) (xsL t)) = (if p.1 = k then some p.2 else fnd k t).map _
    rw [dget_L k t]
    split <;> rfl
theorem dhas_L (k : Str) : ∀ L : FL2, dhas k (ksL L) = (fnd k L).isSome
  | [] => rfl
  | p :: t => by
    show (if p.1 = k then true else dhas k (ksL t)) = (if p.1 = k then some p.2 else fnd k t).isSome
    rw [dhas_L k t]
    split <;> rfl
theorem ksL_map (k : Str) (f : Fl) : ∀ L : FL2, ksL (L.map fun p => if p.1 = k then (p.1, f) else p) = ksL L
  | [] => rfl
  | p :: t => by
    show (if p.1 = k then (p.1, f) else p).1 :: ksL (t.map _) = p.1 :: ksL t
    rw [ksL_map k f t]
    split <;> rfl
theorem xsL_map (k : Str) (f : Fl) : ∀ L : FL2, xsL (L.map fun p => if p.1 = k then (p.1, f) else p) = rplX k (fD (some f)) (ksL L) (xsL L)
  | [] => rfl
  | p :: t => by
    show fD (some (if p.1 = k then (p.1, f) else p).2) :: xsL (t.map _) = (if p.1 = k then fD (some f) else fD (some p.2)) :: rplX k (fD (some f)) (ksL t) (xsL t)
    rw [xsL_map k f t]
    split <;> rfl
theorem dputK_L (k : Str) (f : Fl) (L : FL2) : dputK (ksL L) k = ksL (ins k f L) := by
  unfold dputK ins
  rw [dhas_L]
  split
  · rw [ksL_map]
  · simp [ksL]
theorem dputX_L (k : Str) (f : Fl) (L : FL2) : dputX k (fD (some f)) (ksL L) (xsL L) = xsL (ins k f L) := by
  unfold dputX ins
  rw [dhas_L]
  split
  · rw [xsL_map]
  · simp [xsL]
theorem ddelK_L (k : Str) : ∀ L : FL2, ddelK k (ksL L) = ksL (del k L)
  | [] => rfl
  | p :: t => by
    show (if p.1 = k then ddelK k (ksL t) else p.1 :: ddelK k (ksL t)) = ksL (if p.1 = k then del k t else p :: del k t)
    rw [ddelK_L k t]
    split <;> rfl
theorem ddelX_L (k : Str) : ∀ L : FL2, ddelX k (ksL L) (xsL L) = xsL (del k L)
  | [] => rfl
  | p :: t => by
    show (if p.1 = k then ddelX k (ksL t) (xsL t) else fD (some p.2) :: ddelX k (ksL t) (xsL t)) = xsL (if p.1 = k then del k t else p :: del k t)
    rw [ddelX_L k t]
    split <;> rfl
theorem fnd_mem {k : Str} : ∀ {L : FL2}, (fnd k L).isSome = true ↔ k ∈ ksL L
  | [] => by simp [fnd, ksL]
  | p :: t => by
    have ih := fnd_mem (k := k) (L := t)
    show (if p.1 = k then some p.2 else fnd k t).isSome = true ↔ k ∈ p.1 :: ksL t
    by_cases h : p.1 = k
    · simp [h]
    · rw [if_neg h, ih]; simp [Ne.symm h]
theorem nodup_ins {k : Str} {f : Fl} {L : FL2} (h : (ksL L).Nodup) : (ksL (ins k f L)).Nodup := by
  unfold ins
  split
  · rw [ksL_map]; exact h
  · rename_i hn
    have : k ∉ ksL L := fun z => hn (fnd_mem.mpr z)
    have e : ksL (L ++ [(k, f)]) = ksL L ++ [k] := by simp [ksL]
    rw [e, List.nodup_append]
    exact ⟨h, by simp, fun a ha b hb => by simp at hb; subst hb; rintro rfl; exact this ha⟩
theorem sub_del {k : Str} : ∀ (L : FL2) {a : Str}, a ∈ ksL (del k L) → a ∈ ksL L
  | [], _, h => h
  | p :: t, a, h => by
    have h' : a ∈ ksL (if p.1 = k then del k t else p :: del k t) := h
    split at h'
    · exact .tail _ (sub_del t h')
    · rcases List.mem_cons.mp (show a ∈ p.1 :: ksL (del k t) from h') with rfl | h'
      · exact .head _
      · exact .tail _ (sub_del t h')
theorem nodup_del {k : Str} : ∀ {L : FL2}, (ksL L).Nodup → (ksL (del k L)).Nodup
  | [], h => h
  | p :: t, h => by
    have h2 := List.nodup_cons.mp (show (p.1 :: ksL t).Nodup from h)
    show (ksL (if p.1 = k then del k t else p :: del k t)).Nodup
    split
    · exact nodup_del h2.2
    · exact List.nodup_cons.mpr ⟨fun z => h2.1 (sub_del t z), nodup_del h2.2⟩
theorem len_ins {k : Str} {f : Fl} {L : FL2} : (ins k f L).length ≤ L.length + 1 := by
  unfold ins
  split <;> simp
theorem len_del {k : Str} : ∀ (L : FL2), (del k L).length ≤ L.length
  | [] => Nat.le_refl _
  | p :: t => by
    have := len_del (k := k) t
    show (if p.1 = k then del k t else p :: del k t).length ≤ _
    split <;> simp <;> omega
theorem nodup_upd {k : Str} {fo : Option Fl} {L : FL2} (h : (ksL L).Nodup) : (ksL (updL k fo L)).Nodup := by
  cases fo with
  | none => exact nodup_del h
  | some f => exact nodup_ins h
theorem len_upd {k : Str} {fo : Option Fl} {L : FL2} : (updL k fo L).length ≤ L.length + 1 := by
  cases fo with
  | none => have := len_del (k := k) L; show (del k L).length ≤ _; omega
  | some f => exact len_ins
theorem ins_same {k : Str} {f : Fl} : ∀ {L : FL2}, (ksL L).Nodup → fnd k L = some f → ins k f L = L := by
  intro L hn h
  unfold ins
  rw [if_pos (by rw [h]; rfl)]
  have key : ∀ {L : FL2}, (ksL L).Nodup → (k ∈ ksL L → fnd k L = some f) → L.map (fun p => if p.1 = k then (p.1, f) else p) = L := by
    intro L
    induction L with
    | nil => intros; rfl
    | cons p t ih =>
      intro hn h
      have h2 := List.nodup_cons.mp (show (p.1 :: ksL t).Nodup from hn)
      rw [List.map_cons]
      by_cases e : p.1 = k
      · have e2 : (if p.1 = k then some p.2 else fnd k t) = some f := h (by show k ∈ p.1 :: ksL t; rw [e]; exact .head _)
        rw [if_pos e] at e2
        have : p.2 = f := Option.some.inj e2
        rw [if_pos e, ih h2.2 fun z => absurd (e ▸ z) h2.1, ← this]
      · rw [if_neg e, ih h2.2 fun z => by
          have e2 : (if p.1 = k then some p.2 else fnd k t) = some f := h (.tail _ z)
          rw [if_neg e] at e2
          exact e2]
  exact key hn fun _ => h
theorem del_none {k : Str} : ∀ {L : FL2}, fnd k L = none → del k L = L
  | [], _ => rfl
  | p :: t, h => by
    have h' : (if p.1 = k then some p.2 else fnd k t) = none := h
    show (if p.1 = k then del k t else p :: del k t) = _
    by_cases e : p.1 = k
    · rw [if_pos e] at h'; cases h'
    · rw [if_neg e] at h' ⊢
      rw [del_none h']
theorem dmrgK_id : ∀ (ks ka : List Str), (ka ++ ks).Nodup → dmrgK ks ka = ka ++ ks
  | [], ka, _ => by simp [dmrgK]
  | g :: gs, ka, h => by
    have hg : ¬ dhas g ka = true := fun z => by
      rw [List.nodup_append] at h
      exact h.2.2 g (dhas_mem.mp z) g (.head _) rfl
    show dmrgK gs (dputK ka g) = _
    have e : dputK ka g = ka ++ [g] := by unfold dputK; rw [if_neg hg]
    rw [e, dmrgK_id gs (ka ++ [g]) (by simpa using h)]
    simp
theorem dmrgX_id {α : Type} : ∀ (ks : List Str) (xs : List α) (ka : List Str) (xa : List α), (ka ++ ks).Nodup → ks.length = xs.length → dmrgX ks xs ka xa = xa ++ xs
  | [], [], ka, xa, _, _ => by simp [dmrgX]
  | [], _ :: _, _, _, _, h => by simp at h
  | _ :: _, [], _, _, _, h => by simp at h
  | g :: gs, x :: xs, ka, xa, h, hl => by
    have hg : ¬ dhas g ka = true := fun z => by
      rw [List.nodup_append] at h
      exact h.2.2 g (dhas_mem.mp z) g (.head _) rfl
    show dmrgX gs xs (dputK ka g) (dputX g x ka xa) = _
    have e : dputK ka g = ka ++ [g] := by unfold dputK; rw [if_neg hg]
    have e2 : dputX g x ka xa = xa ++ [x] := by unfold dputX; rw [if_neg hg]
    rw [e, e2, dmrgX_id gs xs (ka ++ [g]) (xa ++ [x]) (by simpa using h) (by simpa using hl)]
    simp
theorem dget_at {k : Str} {f : Fl} {L : FL2} (hn : (ksL L).Nodup) (h : (k, f) ∈ L) : dget k (ksL L) (xsL L) = some (fD (some f)) := by
  rw [dget_L]
  have : fnd k L = some f := by
    induction L with
    | nil => cases h
    | cons p t ih =>
      have h2 := List.nodup_cons.mp (show (p.1 :: ksL t).Nodup from hn)
      show (if p.1 = k then some p.2 else fnd k t) = some f
      rcases List.mem_cons.mp h with rfl | h'
      · rw [if_pos rfl]
      · have : p.1 ≠ k := fun e => h2.1 (by rw [e]; exact List.mem_map.mpr ⟨_, h', rfl⟩)
        rw [if_neg this, ih h2.2 h']
  rw [this]; rfl
theorem wf_loop {k : Str} {L : FL2} (hL : (ksL L).Nodup) {x2 : Option D} : ∀ (T : FL2) (pk : List Str) (px : List D), (pk ++ ksL T).Nodup → pk.length + T.length < 1000 → (∀ p ∈ T, p ∈ L) →
    dcL (gSet 3) (FL.tB blD (FL.e2 neD (eVar 3) (eVar 1))) (eVar 3) (FL.e2 dgetD (eVar 0) (eVar 3)) [some (.dct (ksL L) (xsL L)), some (.str k), x2, none] ((ksL T).map D.str) pk px = some (pk ++ ksL (del k T), px ++ xsL (del k T))
  | [], pk, px, _, _, _ => by simp [ksL, xsL, del, dcL]
  | p :: t, pk, px, hn, hl, hm => by
    show dcL _ _ _ _ _ (.str p.1 :: (ksL t).map D.str) pk px = _
    unfold dcL
    have e1 : gSet 3 (.str p.1) [some (.dct (ksL L) (xsL L)), some (.str k), x2, none] = some [some (.dct (ksL L) (xsL L)), some (.str k), x2, some (.str p.1)] := rfl
    rw [e1]
    dsimp only
    have e2 : FL.tB blD (FL.e2 neD (eVar 3) (eVar 1)) [some (.dct (ksL L) (xsL L)), some (.str k), x2, some (.str p.1)] = some (!decide (p.1 = k)) := by
      refine tB_val (x := .bl (!decide (p.1 = k))) (e2_val (x := .str p.1) (y := .str k) rfl rfl ?_) rfl
      show (match eqB (.str p.1) (.str k) with | some b => some (D.bl (!b)) | none => none) = _
      show some (D.bl (!FL.sEq p.1 k)) = _
      rw [FL.sEq_eq]
    rw [e2]
    have hn2 := hn
    have e0 : pk ++ ksL (p :: t) = pk ++ p.1 :: ksL t := rfl
    rw [e0] at hn2
    by_cases h : p.1 = k
    · rw [show (!decide (p.1 = k)) = false from by simp [h]]
      dsimp only
      have e3 : del k (p :: t) = del k t := by show (if p.1 = k then del k t else p :: del k t) = _; rw [if_pos h]
      rw [e3]
      refine wf_loop hL t pk px ?_ (by simp at hl; omega) fun q hq => hm q (.tail _ hq)
      exact (List.nodup_append.mp hn2).1 |> fun a => by
        rw [List.nodup_append] at hn2 ⊢
        exact ⟨hn2.1, (List.nodup_cons.mp hn2.2.1).2, fun a ha b hb => hn2.2.2 a ha b (.tail _ hb)⟩
    · rw [show (!decide (p.1 = k)) = true from by simp [h]]
      dsimp only
      have e3 : del k (p :: t) = p :: del k t := by show (if p.1 = k then del k t else p :: del k t) = _; rw [if_neg h]
      rw [e3]
      rw [show eVar 3 [some (.dct (ksL L) (xsL L)), some (.str k), x2, some (.str p.1)] = some (.str p.1) from rfl]
      dsimp only
      rw [show FL.e2 dgetD (eVar 0) (eVar 3) [some (.dct (ksL L) (xsL L)), some (.str k), x2, some (.str p.1)] = some (fD (some p.2)) from e2_val (x := .dct (ksL L) (xsL L)) (y := .str p.1) rfl rfl (dget_at hL (hm p (.head _)))]
      dsimp only
      rw [if_pos (by simp at hl; omega)]
      have hg : ¬ dhas p.1 pk = true := fun z => by
        rw [List.nodup_append] at hn2
        exact hn2.2.2 p.1 (dhas_mem.mp z) p.1 (.head _) rfl
      have f1 : dputK pk p.1 = pk ++ [p.1] := by unfold dputK; rw [if_neg hg]
      have f2 : dputX p.1 (fD (some p.2)) pk px = px ++ [fD (some p.2)] := by unfold dputX; rw [if_neg hg]
      rw [f1, f2, wf_loop hL t (pk ++ [p.1]) (px ++ [fD (some p.2)]) (by simpa using hn2) (by simp at hl ⊢; omega) fun q hq => hm q (.tail _ hq)]
      simp [ksL, xsL]
theorem with_field {k : Str} {fo : Option Fl} {L : FL2} (hL : (ksL L).Nodup) (hl : L.length < 500) : m__with_field [.dct (ksL L) (xsL L), .str k, fD fo] = some (.dct (ksL (updL k fo L)) (xsL (updL k fo L))) := by
  refine runD_rt ?_
  unfold G__with_field
  cases fo with
  | none =>
    refine seq_t (by rfl) (seq_as (seq_ret ?_))
    unfold eDcK
    show (match dcL (gSet 3) (FL.tB blD (FL.e2 neD (eVar 3) (eVar 1))) (eVar 3) (FL.e2 dgetD (eVar 0) (eVar 3)) [some (.dct (ksL L) (xsL L)), some (.str k), some .non, none] ((ksL L).map D.str) [] [] with | some (ks, xs) => some (D.dct ks xs) | none => none) = _
    rw [wf_loop hL L [] [] (by simpa using hL) (by simp; omega) fun p hp => hp]
    rfl
  | some f =>
    obtain ⟨v, c, g⟩ := f
    refine seq_f (by rfl) (seq_nil (seq_ret ?_))
    unfold eStarD
    show (if (ksL L).length < 1000 then some (D.dct (dputK (dmrgK (ksL L) []) k) (dputX k (fD (some (v, c, g))) (dmrgK (ksL L) []) (dmrgX (ksL L) (xsL L) [] []))) else none) = _
    rw [if_pos (by simp [ksL]; omega), dmrgK_id (ksL L) [] (by simpa using hL), dmrgX_id (ksL L) (xsL L) [] [] (by simpa using hL) (len_L L), List.nil_append, List.nil_append, dputK_L k (v, c, g), dputX_L]
    rfl
/-! ### a plain thing -/
def th (j : Nat) (L : FL2) (sh : Bool) : Ob := ⟨.ins, "Thing", ["_history", "_fields", "_shut"], [.obj j, .dct (ksL L) (xsL L), .bl sh]⟩
def hi (hs : List D) : Ob := ⟨.lst, "", [], hs⟩
def thD (hs : List D) (L : FL2) (sh : Bool) : D := .ins "Thing" ["_history", "_fields", "_shut"] [.lst hs, .dct (ksL L) (xsL L), .bl sh]
def EvT (hs : List D) : Prop := ∀ h ∈ hs, ∃ xs, h = .tup xs
theorem map_shd {S : List Ob} {n : Nat} : ∀ {hs : List D}, EvT hs → hs.map (shd S n) = hs
  | [], _ => rfl
  | h :: hs, e => by
    obtain ⟨xs, rfl⟩ := e h (.head _)
    have ih := map_shd (S := S) (n := n) (hs := hs) fun x hx => e x (.tail _ hx)
    rw [List.map_cons, ih]
    cases n <;> rfl
section
variable {S : List Ob} {i j : Nat} {L : FL2} {sh : Bool} {hs : List D} {r : D} {nm : Option Str}
theorem shd_thing (h1 : S[i]? = some (th j L sh)) (h2 : S[j]? = some (hi hs)) (he : EvT hs) : shE S (some (.obj i)) = some (thD hs L sh) := by
  show some (shd S 6 (.obj i)) = _
  unfold shd
  rw [h1]
  show some (D.ins "Thing" ["_history", "_fields", "_shut"] ([D.obj j, .dct (ksL L) (xsL L), .bl sh].map (shd S 5))) = _
  have e : shd S 5 (.obj j) = .lst hs := by
    unfold shd
    rw [h2]
    show D.lst (hs.map (shd S 4)) = _
    rw [map_shd he]
  simp only [List.map_cons, List.map_nil, e]
  rfl
theorem w_putA {c f : Str} {F1 : FL.Env → List Ob → Option (D × List Ob)} {Fo : FL.Env → Option D} {G : FL.Env → List Ob → Option MOut} {ρ : FL.Env} {S1 : List Ob} {d : D} {t : Nat} {o : Option MOut} {ob : Ob} (h1 : F1 ρ S = some (d, S1)) (h2 : Fo ρ = some (.obj t)) (h3 : S1[t]? = some ob) (h4 : ob.k = .ins ∧ ob.c = c ∧ ob.fs.length < 1000) (k : G ρ (S1.set t ⟨ob.k, ob.c, putAK ob.fs f, putAX f d ob.fs ob.xs⟩) = o) : mSeq (mPutA c f Fo F1) G ρ S = o := by
  unfold mSeq mPutA
  rw [h1]
  dsimp only
  rw [h2]
  dsimp only
  rw [h3]
  dsimp only
  rw [if_pos h4]
  have e : putA S1 t f d = S1.set t ⟨ob.k, ob.c, putAK ob.fs f, putAX f d ob.fs ob.xs⟩ := by unfold putA; rw [h3]
  rw [e]
  exact k
theorem w_asg {F1 : FL.Env → List Ob → Option (D × List Ob)} {g : D → FL.Env → Option FL.Env} {G : FL.Env → List Ob → Option MOut} {ρ ρ' : FL.Env} {S1 : List Ob} {d : D} {o : Option MOut} (h1 : F1 ρ S = some (d, S1)) (h2 : g d ρ = some ρ') (k : G ρ' S1 = o) : mSeq (mAsg g F1) G ρ S = o := by
  unfold mSeq mAsg
  rw [h1]
  dsimp only
  rw [h2]
  exact k
theorem w_mutE {M0 : FL.Env → List Ob → Option (D × List Ob)} {A2 : FL.Env → List Ob → Option (List D × List Ob)} {f : List D → List D → Option (List D)} {G : FL.Env → List Ob → Option MOut} {ρ : FL.Env} {S0 S1 : List Ob} {o : Option MOut} {t : Nat} {ob ob1 : Ob} {ds ys : List D} (h0 : M0 ρ S = some (.obj t, S0)) (h2 : S0[t]? = some ob) (h3 : ob.k = .lst) (h4 : A2 ρ S0 = some (ds, S1)) (h5 : S1[t]? = some ob1) (h6 : ob1.k = .lst) (h7 : f ob1.xs ds = some ys) (k : G ρ (setL S1 t ys) = o) : mSeq (mMutE M0 f A2) G ρ S = o := by
  unfold mSeq mMutE
  rw [h0]
  dsimp only
  rw [h2]
  dsimp only
  rw [if_pos h3, h4]
  dsimp only
  rw [h5]
  dsimp only
  rw [if_pos h6, h7]
  exact k
theorem qLk_val {F : FL.Env → Option D} {ρ : FL.Env} {d : D} (h : F (ρ.map (shE S)) = some d) (hn : noIns d = true) : qLk F ρ S = some (d, S) := by
  unfold qLk
  rw [h]
  dsimp only
  rw [if_pos hn]
theorem qTl_val {T : FL.Env → Option Bool} {ρ : FL.Env} {b : Bool} (h : T (ρ.map (shE S)) = some b) : qTl T ρ S = some (b, S) := by
  unfold qTl
  rw [h]
theorem qLkN_val {F : FL.Env → Option D} {ρ : FL.Env} {xs : List D} (h : F (ρ.map (shE S)) = some (.lst xs)) (hn : noInss xs = true) : qLkN F ρ S = some (.lst xs, S) := by
  unfold qLkN
  rw [h]
  dsimp only
  rw [if_pos hn]
theorem mFld_val {c f : Str} {F1 : FL.Env → List Ob → Option (D × List Ob)} {ρ : FL.Env} {S1 : List Ob} {t : Nat} {ob : Ob} {d : D} (h1 : F1 ρ S = some (.obj t, S1)) (h2 : S1[t]? = some ob) (h3 : ob.k = .ins ∧ ob.c = c) (h4 : dget f ob.fs ob.xs = some d) : mFld c f F1 ρ S = some (d, S1) := by
  unfold mFld
  rw [h1]
  dsimp only
  rw [h2]
  dsimp only
  rw [if_pos h3, h4]
theorem sh_req (h : IsReq r nm) : shE S (some r) = some r := by
  obtain ⟨k, xs, rfl⟩ := req_tup h
  rfl
theorem dgetN_L (nm : Option Str) : dgetND (.dct (ksL L) (xsL L)) (nmD nm) = some (fD (nm.bind fun k => fnd k L)) := by
  cases nm with
  | none => rfl
  | some k =>
    show (match dget k (ksL L) (xsL L) with | some d => some d | none => if dhas k (ksL L) = false then some D.non else none) = some (fD (fnd k L))
    rw [dget_L, dhas_L]
    cases fnd k L <;> rfl
theorem reqname (h : IsReq r nm) : eIf (FL.tB blD (FL.e2 gtD (eL lenD (aCons (eVar 1) aNil)) (eC (.int 1)))) (FL.e2 ixD (eVar 1) (eC (.int 1))) (eC .non) [some (.obj i), some r, none, none, none, none] = some (nmD nm) := by
  cases h <;> kernel_rfl
def newL (L : FL2) (nm : Option Str) (fo' : Option Fl) : FL2 := match nm with | some k => updL k fo' L | none => L
theorem done_v (h1 : S[i]? = some (th j L sh)) (h2 : S[j]? = some (hi hs)) (he : EvT hs) (hL : (ksL L).Nodup) (hl : L.length < 500) (hr : IsReq r nm) {ans : D} {fo' : Option Fl} {sh' : Bool} (A : Act r (nm.bind fun k => fnd k L) sh ans fo' sh') :
    m_Thing__done [.obj i, r] S = some (ans, S.set i (th j (newL L nm fo') sh')) := by
  have hil : i < S.length := (List.getElem?_eq_some_iff.mp h1).1
  refine runM_rt ?_
  unfold G_Thing__done
  refine w_f (qTp_val (b := false) (tB_val (x := .bl false) (e2_val (x := r) (y := .tup [.str "names"]) rfl rfl (req_ne hr)) rfl)) (w_nil ?_)
  refine w_set (d := nmD nm) (reqname hr) ?_
  refine w_asg (d := .tup [ans, .tup [fD fo', .bl sh']]) (S1 := S) (ρ' := [some (.obj i), some r, some (nmD nm), some ans, some (fD fo'), some (.bl sh')]) (qLk_val ?_ ?_) rfl (w_fg ?_)
  · show eL _ _ ([shE S (some (.obj i)), shE S (some r), shE S (some (nmD nm)), none, none, none] : FL.Env) = _
    rw [shd_thing h1 h2 he, sh_req hr]
    have e : shE S (some (nmD nm)) = some (nmD nm) := by cases nm <;> rfl
    rw [e]
    refine eL_val (ds := [.tup [fD (nm.bind fun k => fnd k L), .bl sh], r]) (aCons_val (eL_val (ds := [fD (nm.bind fun k => fnd k L), .bl sh]) (aCons_val (e2_val (x := .dct (ksL L) (xsL L)) (y := nmD nm) rfl rfl (dgetN_L nm)) rfl) rfl) rfl) (mL_val rfl A.p)
  · show (noIns ans && (noInss [D.tup [fD fo', .bl sh']])) = true
    rw [A.ni]
    show (noInss [fD fo', D.bl sh'] && true) = true
    show ((noIns (fD fo') && true) && true) = true
    rw [noIn_fD]; rfl
  refine w_putA (ob := th j L sh) (t := i) (d := .bl sh') (qPure_val rfl) rfl h1 ⟨rfl, rfl, by show 3 < 1000; decide⟩ (w_fg ?_)
  have e1 : (⟨(th j L sh).k, (th j L sh).c, putAK (th j L sh).fs "_shut", putAX "_shut" (.bl sh') (th j L sh).fs (th j L sh).xs⟩ : Ob) = th j L sh' := by rfl
  rw [e1]
  have h1' : (S.set i (th j L sh'))[i]? = some (th j L sh') := List.getElem?_set_self hil
  cases nm with
  | none =>
    refine w_f (qTp_val (by rfl)) (w_nil (w_fg (w_retP rfl)))
  | some k =>
    refine w_t (qTp_val (by rfl)) (w_as ?_)
    refine w_putA (ob := th j L sh') (t := i) (d := .dct (ksL (updL k fo' L)) (xsL (updL k fo' L))) (S1 := S.set i (th j L sh')) (mCall_val (ds := [.dct (ksL L) (xsL L), .str k, fD fo']) (qCons_val (mFld_val (qPure_val rfl) h1' ⟨rfl, rfl⟩ rfl) (qCons_val (qPure_val rfl) (qCons_val (qPure_val rfl) rfl))) rfl (pMir_val (with_field hL hl))) rfl h1' ⟨rfl, rfl, by show 3 < 1000; decide⟩ (w_nil (w_fg ?_))
    have e2 : (⟨(th j L sh').k, (th j L sh').c, putAK (th j L sh').fs "_fields", putAX "_fields" (.dct (ksL (updL k fo' L)) (xsL (updL k fo' L))) (th j L sh').fs (th j L sh').xs⟩ : Ob) = th j (updL k fo' L) sh' := by rfl
    rw [e2, List.set_set]
    exact w_retP rfl
theorem keep_v {e : D} (h1 : S[i]? = some (th j L sh)) (h2 : S[j]? = some (hi hs)) (hl : hs.length < 1000) : m_Thing__keep [.obj i, e] S = some (.non, S.set j (hi (hs ++ [e]))) := by
  refine runM_nx (ρ' := [some (.obj i), some e]) ?_
  unfold G_Thing__keep
  refine w_mutE (t := j) (ob := hi hs) (ob1 := hi hs) (ds := [e]) (ys := hs ++ [e]) (S0 := S) (S1 := S) (mFld_val (qPure_val rfl) h1 ⟨rfl, rfl⟩ rfl) h2 rfl rfl h2 rfl ?_ ?_
  · unfold appendF
    dsimp only
    rw [if_pos (by show hs.length < sizeLine; rw [sizeLine_eq]; omega)]
    rfl
  · unfold setL
    rw [h2]
    rfl
theorem ask_v (h1 : S[i]? = some (th j L sh)) (h2 : S[j]? = some (hi hs)) (hij : i ≠ j) (he : EvT hs) (hL : (ksL L).Nodup) (hl : L.length < 500) (hh : hs.length < 1000) (hr : IsReq r nm) {ans : D} {fo' : Option Fl} {sh' : Bool} (A : Act r (nm.bind fun k => fnd k L) sh ans fo' sh') :
    m_Thing_ask [.obj i, r] S = some (ans, (S.set i (th j (newL L nm fo') sh')).set j (hi (hs ++ [.tup [r, ans]]))) := by
  have hil : i < S.length := (List.getElem?_eq_some_iff.mp h1).1
  refine runM_rt ?_
  unfold G_Thing_ask
  refine w_oset (d := ans) (S1 := S.set i (th j (newL L nm fo') sh')) (mMe_val (ds := [r]) (ob := th j L sh) rfl h1 ⟨rfl, rfl, by kernel_rfl⟩ rfl rfl (done_v h1 h2 he hL hl hr A)) ?_
  have h1' : (S.set i (th j (newL L nm fo') sh'))[i]? = some (th j (newL L nm fo') sh') := List.getElem?_set_self hil
  have h2' : (S.set i (th j (newL L nm fo') sh'))[j]? = some (hi hs) := by rw [List.getElem?_set_ne hij]; exact h2
  refine w_ex (mMe_val (ds := [.tup [r, ans]]) (ob := th j (newL L nm fo') sh') rfl h1' ⟨rfl, rfl, by kernel_rfl⟩ rfl rfl (keep_v h1' h2' hh)) (w_fg (w_retP rfl))
end
end LW
namespace LW
open PySem FL
/-! ### rows, starts and requests -/
def rowD (p : Str × Fl) : D := .tup [.str p.1, .int p.2.1, .bl p.2.2.1, .bl p.2.2.2]
def insAll (rows L : FL2) : FL2 := rows.foldl (fun L p => ins p.1 p.2 L) L
theorem okS_mono : ∀ {n : Nat} {d : D}, okS n d = true → okS (n + 1) d = true
  | 0, _, h => by cases h
  | n + 1, .non, _ => rfl
  | n + 1, .bl _, _ => rfl
  | n + 1, .int _, _ => rfl
  | n + 1, .str _, _ => rfl
  | n + 1, .tup xs, h => by
    have h' : xs.length < 1000000 ∧ ∀ x ∈ xs, okS n x = true := by simpa [okS] using h
    have : ∀ x ∈ xs, okS (n + 1) x = true := fun x hx => okS_mono (h'.2 x hx)
    show (decide (xs.length < 1000000) && xs.all (okS (n + 1))) = true
    simp only [Bool.and_eq_true, decide_eq_true_eq, List.all_eq_true]
    exact ⟨h'.1, this⟩
  | n + 1, .lst xs, h => by
    have h' : xs.length < 1000000 ∧ ∀ x ∈ xs, okS n x = true := by simpa [okS] using h
    have : ∀ x ∈ xs, okS (n + 1) x = true := fun x hx => okS_mono (h'.2 x hx)
    show (decide (xs.length < 1000000) && xs.all (okS (n + 1))) = true
    simp only [Bool.and_eq_true, decide_eq_true_eq, List.all_eq_true]
    exact ⟨h'.1, this⟩
  | n + 1, .klst xs, h => by
    have h' : xs.length < 1000000 ∧ ∀ x ∈ xs, okS n x = true := by simpa [okS] using h
    have : ∀ x ∈ xs, okS (n + 1) x = true := fun x hx => okS_mono (h'.2 x hx)
    show (decide (xs.length < 1000000) && xs.all (okS (n + 1))) = true
    simp only [Bool.and_eq_true, decide_eq_true_eq, List.all_eq_true]
    exact ⟨h'.1, this⟩
  | n + 1, .obj i, h => by cases h
  | n + 1, .ins c fs xs, h => by cases h
  | n + 1, .dct fs xs, h => by cases h
theorem okS_tup {n : Nat} {xs : List D} (hl : xs.length < 1000000) (h : ∀ x ∈ xs, okS n x = true) : okS (n + 1) (.tup xs) = true := by
  show (decide (xs.length < 1000000) && xs.all (okS n)) = true
  simp only [Bool.and_eq_true, decide_eq_true_eq, List.all_eq_true]
  exact ⟨hl, h⟩
theorem okS_lst {n : Nat} {xs : List D} (hl : xs.length < 1000000) (h : ∀ x ∈ xs, okS n x = true) : okS (n + 1) (.lst xs) = true := by
  show (decide (xs.length < 1000000) && xs.all (okS n)) = true
  simp only [Bool.and_eq_true, decide_eq_true_eq, List.all_eq_true]
  exact ⟨hl, h⟩
theorem same_ok {d : D} (h : okS 4 d = true) : m__law_is_same 6 [d, d] = some (.bl true) := isSame_refl 6 d (okS_mono (okS_mono h))
def Told (hs : List D) : Prop := ∀ h ∈ hs, okS 5 h = true ∧ noIns h = true ∧ ∃ xs, h = .tup xs
theorem Told.ev {hs : List D} (h : Told hs) : EvT hs := fun x hx => (h x hx).2.2
theorem Told.add {hs : List D} {r a : D} (h : Told hs) (hr : okS 4 r = true) (ha : okS 4 a = true) (nr : noIns r = true) (na : noIns a = true) : Told (hs ++ [.tup [r, a]]) := fun x hx => by
  rcases List.mem_append.mp hx with hx | hx
  · exact h x hx
  · cases List.mem_singleton.mp hx
    refine ⟨okS_tup (by show 2 < 1000000; decide) fun y hy => ?_, ?_, _, rfl⟩
    · rcases List.mem_cons.mp hy with rfl | hy
      · exact hr
      · cases List.mem_singleton.mp hy; exact ha
    · show (noIns r && (noIns a && true)) = true
      rw [nr, na]; rfl
theorem Told.noInss : ∀ {hs : List D}, Told hs → noInss hs = true
  | [], _ => rfl
  | x :: hs, h => by
    show (noIns x && FL.noInss hs) = true
    rw [(h x (.head _)).2.1, Told.noInss (hs := hs) fun y hy => h y (.tail _ hy)]; rfl
theorem Told.same {hs : List D} (h : Told hs) (hl : hs.length < 100000) : m__law_is_same 6 [.lst hs, .lst hs] = some (.bl true) := isSame_refl 6 _ (okS_lst (by omega) fun x hx => (h x hx).1)
theorem label_fl (z : Int) : ∃ L : Str, ixD (.str "abcdefgh") (.int (z % 8)) = some (.str L) ∧ L ∈ letters := label_form z
theorem spot_fl (z : Int) : ∃ (fo : Option Fl) (s : Bool), m__law_spot [.int z] = some (.tup [fD fo, .bl s]) ∧ ∀ f, fo = some f → 0 ≤ f.1 ∧ f.1 ≤ 9 := by
  obtain ⟨F, s, h, hF⟩ := spot_form z
  rcases hF with rfl | ⟨v, c, g, rfl, _, _⟩
  · exact ⟨none, s, h, fun _ e => nomatch e⟩
  · exact ⟨some (v, c, g), s, h, fun _ e => by cases e; exact ⟨by assumption, by show v ≤ 9; omega⟩⟩
theorem starts_form (ds : List Int) (h9 : ds.length = 9) : ∃ rows : FL2, m__law_starts [.lst (ds.map D.int)] = some (.lst (rows.map rowD)) ∧ rows.length ≤ 8 ∧ ∀ p ∈ rows, p.1 ∈ letters ∧ 0 ≤ p.2.1 ∧ p.2.1 ≤ 9 := by
  obtain ⟨z0, hz0⟩ : ∃ z, ds[0]? = some z := ⟨ds[0]'(by omega), List.getElem?_eq_getElem (by omega)⟩
  have ix0 : ∀ ρ : FL.Env, ρ[0]? = some (some (.lst (ds.map D.int))) → FL.e2 ixD (eVar 0) (eC (.int 0)) ρ = some (.int z0) := fun ρ h => by
    refine e2_val (x := .lst (ds.map D.int)) (y := .int 0) (var_v h) rfl ?_
    exact atI_nat (k := 0) (by rw [List.getElem?_map, hz0]; rfl)
  obtain ⟨m, hm, hm9⟩ : ∃ m : Nat, z0 % 9 = (m : Int) ∧ m < 9 := ⟨(z0 % 9).toNat, by omega, by omega⟩
  obtain ⟨ρ', h1, rows, x2, x3, x4, rfl, hr1, hr2⟩ := loop_nx (g := gSet 2) (B := (sSeq (sSet 3 (FL.e2 ixD (eL (mL 1 m__law_spot) (aCons (FL.e2 ixD (eVar 0) (FL.e2 addD (eC (.int 1)) (eVar 2))) aNil)) (eC (.int 0))))
    (sSeq (sSet 4 (FL.e2 ixD (eC (.str "abcdefgh")) (FL.e2 modD (eL intD (aCons (FL.e2 addD (FL.e2 fdivD (FL.e2 ixD (eVar 0) (eC (.int 0))) (eC (.int 9))) (FL.e2 mulD (eVar 2) (FL.e2 ixD (eL lstD (aK [(.int 1), (.int 3), (.int 5), (.int 7)])) (FL.e2 modD (eL intD (aCons (FL.e2 fdivD (FL.e2 ixD (eVar 0) (eC (.int 0))) (eC (.int 72))) aNil)) (eC (.int 4)))))) aNil)) (eC (.int 8)))))
    (sSeq (sIf (FL.tB blD (FL.e2 isntD (eVar 3) (eC .non)))
      (sSeq (sMut 1 appendF (aCons (eL tupD (aCons (eVar 4) (aCons (FL.e2 ixD (eVar 3) (eC (.int 0))) (aCons (FL.e2 ixD (eVar 3) (eC (.int 1))) (aCons (FL.e2 ixD (eVar 3) (eC (.int 2))) aNil))))) aNil))
    sNil)
      sNil)
    sNil)))) (I := fun k ρ => ∃ (rows : FL2) (x2 x3 x4 : Option D), ρ = [some (.lst (ds.map D.int)), some (.lst (rows.map rowD)), x2, x3, x4] ∧ rows.length ≤ k ∧ ∀ p ∈ rows, p.1 ∈ letters ∧ 0 ≤ p.2.1 ∧ p.2.1 ≤ 9) (rngD 0 m) 0 [some (.lst (ds.map D.int)), some (.lst []), none, none, none] (fun k ρ d h hd => by
      obtain ⟨rows, x2, x3, x4, rfl, hr1, hr2⟩ := h
      obtain ⟨hk, rfl⟩ := rngD_get hd
      rw [Nat.zero_add] at hr1
      obtain ⟨z, hz⟩ : ∃ z, ds[1 + k]? = some z := ⟨ds[1 + k]'(by omega), List.getElem?_eq_getElem (by omega)⟩
      obtain ⟨fo, s, hs, hv⟩ := spot_fl z
      obtain ⟨t, ht⟩ : ∃ t : Int, ixD (.lst [.int 1, .int 3, .int 5, .int 7]) (.int (z0 / 72 % 4)) = some (.int t) := by
        have h4 : z0 / 72 % 4 = 0 ∨ z0 / 72 % 4 = 1 ∨ z0 / 72 % 4 = 2 ∨ z0 / 72 % 4 = 3 := by omega
        rcases h4 with h4 | h4 | h4 | h4 <;> rw [h4]
        · exact ⟨1, by kernel_rfl⟩
        · exact ⟨3, by kernel_rfl⟩
        · exact ⟨5, by kernel_rfl⟩
        · exact ⟨7, by kernel_rfl⟩
      obtain ⟨L, hL, hL'⟩ := label_fl (z0 / 9 + (0 + (k : Int)) * t)
      have ex : FL.e2 ixD (eL (mL 1 m__law_spot) (aCons (FL.e2 ixD (eVar 0) (FL.e2 addD (eC (.int 1)) (eVar 2))) aNil)) (eC (.int 0)) [some (.lst (ds.map D.int)), some (.lst (rows.map rowD)), some (.int (0 + (k : Int))), x3, x4] = some (fD fo) := by
        refine e2_val (x := .tup [fD fo, .bl s]) (y := .int 0) (eL_val (ds := [.int z]) (aCons_val ?_ rfl) (mL_val rfl hs)) rfl rfl
        refine e2_val (x := .lst (ds.map D.int)) (y := .int (1 + (0 + (k : Int)))) rfl (add_v rfl rfl) ?_
        show L2.atI (ds.map D.int) (1 + (0 + (k : Int))) = _
        rw [show (1 + (0 + (k : Int))) = ((1 + k : Nat) : Int) by omega]
        exact atI_nat (by rw [List.getElem?_map, hz]; rfl)
      have lb : FL.e2 ixD (eC (.str "abcdefgh")) (FL.e2 modD (eL intD (aCons (FL.e2 addD (FL.e2 fdivD (FL.e2 ixD (eVar 0) (eC (.int 0))) (eC (.int 9))) (FL.e2 mulD (eVar 2) (FL.e2 ixD (eL lstD (aK [(.int 1), (.int 3), (.int 5), (.int 7)])) (FL.e2 modD (eL intD (aCons (FL.e2 fdivD (FL.e2 ixD (eVar 0) (eC (.int 0))) (eC (.int 72))) aNil)) (eC (.int 4)))))) aNil)) (eC (.int 8))) [some (.lst (ds.map D.int)), some (.lst (rows.map rowD)), some (.int (0 + (k : Int))), some (fD fo), x4] = some (.str L) := by
        refine e2_val (x := .str "abcdefgh") (y := .int ((z0 / 9 + (0 + (k : Int)) * t) % 8)) rfl (mod_v 8 (by decide) (int_v (add_v (fdiv_v 9 (by decide) (ix0 _ rfl)) (mul_v rfl ?_ (.inl ⟨by omega, by omega⟩))))) hL
        exact e2_val (x := .lst [.int 1, .int 3, .int 5, .int 7]) (y := .int (z0 / 72 % 4)) (by kernel_rfl) (mod_v 4 (by decide) (int_v (fdiv_v 72 (by decide) (ix0 _ rfl)))) ht
      refine ⟨[some (.lst (ds.map D.int)), some (.lst (rows.map rowD)), some (.int (0 + (k : Int))), x3, x4], ?_⟩
      rcases fo with _ | ⟨v, c, g⟩
      · refine ⟨_, rfl, seq_set ex (seq_set lb (seq_f (by rfl) (seq_nil rfl))), rows, _, _, _, rfl, by omega, hr2⟩
      · refine ⟨[some (.lst (ds.map D.int)), some (.lst ((rows ++ [(L, (v, c, g))]).map rowD)), some (.int (0 + (k : Int))), some (fD (some (v, c, g))), some (.str L)], rfl, seq_set ex (seq_set lb (seq_t (by rfl) (seq_as ?_))), _, _, _, _, rfl, by simp; omega, ?_⟩
        · refine seq_mut (ds := [rowD (L, (v, c, g))]) (xs := rows.map rowD) (ys := (rows ++ [(L, (v, c, g))]).map rowD) (by kernel_rfl) rfl ?_ (seq_nil rfl)
          unfold appendF
          dsimp only
          rw [if_pos (by show (rows.map rowD).length < sizeLine; rw [sizeLine_eq]; simp; omega)]
          simp
        · intro p hp
          rcases List.mem_append.mp hp with hp | hp
          · exact hr2 p hp
          · cases List.mem_singleton.mp hp; exact ⟨hL', hv _ rfl⟩) ⟨[], none, none, none, rfl, Nat.le_refl _, fun _ h => nomatch h⟩
  refine ⟨rows, runD_rt ?_, by rw [Nat.zero_add, rngD_len] at hr1; omega, hr2⟩
  unfold G__law_starts
  refine seq_set (d := .lst []) rfl (seq_for (ds := rngD 0 m) ?_ h1 (seq_fg (seq_ret rfl)))
  refine rng1_v ?_ (by omega)
  rw [← hm]
  exact mod_v 9 (by decide) (int_v (ix0 _ rfl))
theorem insAll_nodup : ∀ {rows L : FL2}, (ksL L).Nodup → (ksL (insAll rows L)).Nodup
  | [], _, h => h
  | p :: rows, L, h => insAll_nodup (rows := rows) (nodup_ins (k := p.1) (f := p.2) h)
theorem insAll_len : ∀ {rows L : FL2}, (insAll rows L).length ≤ L.length + rows.length
  | [], _ => Nat.le_refl _
  | p :: rows, L => by
    have h1 := insAll_len (rows := rows) (L := ins p.1 p.2 L)
    have h2 := len_ins (k := p.1) (f := p.2) (L := L)
    show (insAll rows (ins p.1 p.2 L)).length ≤ L.length + (rows.length + 1)
    omega
theorem dcL_rows {a0 a1 : Option D} : ∀ (rows L : FL2), L.length + rows.length < 1000 →
    dcL (gTup (gCons (gSet 2) (gCons (gSet 3) (gCons (gSet 4) (gCons (gSet 5) gNil))))) tYesE (eVar 2) (eL tupD (aCons (eVar 3) (aCons (eVar 4) (aCons (eVar 5) aNil)))) [a0, a1, none, none, none, none] (rows.map rowD) (ksL L) (xsL L) = some (ksL (insAll rows L), xsL (insAll rows L))
  | [], L, _ => rfl
  | p :: rows, L, h => by
    obtain ⟨k, v, c, g⟩ := p
    show dcL _ _ _ _ _ (rowD (k, (v, c, g)) :: rows.map rowD) _ _ = some (ksL (insAll rows (ins k (v, c, g) L)), xsL (insAll rows (ins k (v, c, g) L)))
    unfold dcL
    rw [show gTup (gCons (gSet 2) (gCons (gSet 3) (gCons (gSet 4) (gCons (gSet 5) gNil)))) (rowD (k, (v, c, g))) [a0, a1, none, none, none, none] = some [a0, a1, some (.str k), some (.int v), some (.bl c), some (.bl g)] from rfl]
    dsimp only
    rw [show tYesE [a0, a1, some (.str k), some (.int v), some (.bl c), some (.bl g)] = some true from rfl]
    dsimp only
    rw [show eVar 2 [a0, a1, some (.str k), some (.int v), some (.bl c), some (.bl g)] = some (.str k) from rfl]
    dsimp only
    rw [show eL tupD (aCons (eVar 3) (aCons (eVar 4) (aCons (eVar 5) aNil))) [a0, a1, some (.str k), some (.int v), some (.bl c), some (.bl g)] = some (fD (some (v, c, g))) from rfl]
    dsimp only
    have hl : (ksL L).length = L.length := by simp [ksL]
    have := len_ins (k := k) (f := (v, c, g)) (L := L)
    simp only [List.length_cons] at h
    rw [if_pos (by omega), dputK_L k (v, c, g), dputX_L]
    exact dcL_rows rows _ (by omega)
/-! ### k12: what is due -/
def dic (L : FL2) : Ob := ⟨.dic, "", ksL L, xsL L⟩
theorem deq_fD (a b : Option Fl) : ∃ q, neD (fD a) (fD b) = some (.bl (!q)) ∧ (q = true ↔ a = b) := by
  rcases a with _ | ⟨v, c, g⟩ <;> rcases b with _ | ⟨w, c2, g2⟩
  · exact ⟨true, by kernel_rfl, by simp⟩
  · exact ⟨false, by kernel_rfl, by simp⟩
  · exact ⟨false, by kernel_rfl, by simp⟩
  · refine ⟨(v == w) && ((c == c2) && ((g == g2) && true)), by kernel_rfl, ?_⟩
    simp
section
variable {S : List Ob} {f c : Nat} {L : FL2} {sh : Bool} {r : D} {nm : Option Str}
theorem shd_dic (h : S[f]? = some (dic L)) : shE S (some (.obj f)) = some (.dct (ksL L) (xsL L)) := by
  show some (shd S 6 (.obj f)) = _
  unfold shd
  rw [h]
  show some (D.dct (ksL L) ((xsL L).map (shd S 5))) = _
  have : (xsL L).map (shd S 5) = xsL L := by
    unfold xsL
    rw [List.map_map]
    refine List.map_congr_left fun p _ => ?_
    obtain ⟨k, v, c, g⟩ := p
    rfl
  rw [this]
theorem shd_cls (h : S[c]? = some (hi [.bl sh])) : shE S (some (.obj c)) = some (.lst [.bl sh]) := by
  show some (shd S 6 (.obj c)) = _
  unfold shd
  rw [h]
  rfl
theorem w_putD {i t : Nat} {k : Str} {d : D} {F1 : FL.Env → List Ob → Option (D × List Ob)} {Fi : FL.Env → Option D} {G : FL.Env → List Ob → Option MOut} {ρ : FL.Env} {S1 : List Ob} {o : Option MOut} {ob : Ob} (h1 : F1 ρ S = some (d, S1)) (h2 : Fi ρ = some (.str k)) (h3 : ρ[i]? = some (some (.obj t))) (h4 : S1[t]? = some ob) (h5 : ob.k = .dic ∧ ob.fs.length < 1000) (k' : G ρ (S1.set t ⟨.dic, ob.c, dputK ob.fs k, dputX k d ob.fs ob.xs⟩) = o) : mSeq (mPutD i Fi F1) G ρ S = o := by
  unfold mSeq mPutD
  rw [h1]
  dsimp only
  rw [h2]
  dsimp only
  rw [h3]
  dsimp only
  rw [h4]
  dsimp only
  rw [if_pos h5]
  have e : setD S1 t (dputK ob.fs k) (dputX k d ob.fs ob.xs) = S1.set t ⟨.dic, ob.c, dputK ob.fs k, dputX k d ob.fs ob.xs⟩ := by unfold setD; rw [h4]
  rw [e]
  exact k'
theorem w_popD {i t : Nat} {k : Str} {Fi : FL.Env → Option D} {G : FL.Env → List Ob → Option MOut} {ρ : FL.Env} {o : Option MOut} {ob : Ob} (h2 : Fi ρ = some (.str k)) (h3 : ρ[i]? = some (some (.obj t))) (h4 : S[t]? = some ob) (h5 : ob.k = .dic ∧ dhas k ob.fs = true) (k' : G ρ (S.set t ⟨.dic, ob.c, ddelK k ob.fs, ddelX k ob.fs ob.xs⟩) = o) : mSeq (mPopD i Fi) G ρ S = o := by
  unfold mSeq mPopD
  rw [h2]
  dsimp only
  rw [h3]
  dsimp only
  rw [h4]
  dsimp only
  rw [if_pos h5]
  have e : setD S t (ddelK k ob.fs) (ddelX k ob.fs ob.xs) = S.set t ⟨.dic, ob.c, ddelK k ob.fs, ddelX k ob.fs ob.xs⟩ := by unfold setD; rw [h4]
  rw [e]
  exact k'
theorem and_v {A B : FL.Env → Option Bool} {ρ : FL.Env} {b c : Bool} (h1 : A ρ = some b) (h2 : B ρ = some c) : FL.tAnd A B ρ = some (b && c) := by
  unfold FL.tAnd
  rw [h1]
  cases b
  · rfl
  · exact h2
theorem set_id {α : Type} {xs : List α} {i : Nat} {x : α} (h : xs[i]? = some x) : xs.set i x = xs := by
  apply List.ext_getElem?
  intro j
  by_cases hj : j = i
  · subst hj
    rw [List.getElem?_set_self (List.getElem?_eq_some_iff.mp h).1, h]
  · rw [List.getElem?_set_ne (Ne.symm hj)]
theorem does_v (h1 : S[f]? = some (dic L)) (h2 : S[c]? = some (hi [.bl sh])) (hfc : c ≠ f) (hL : (ksL L).Nodup) (hl : L.length < 500) (hr : IsReq r nm) {ans : D} {fo' : Option Fl} {sh' : Bool} (A : Act r (nm.bind fun k => fnd k L) sh ans fo' sh') (hn : nm = none → fo' = nm.bind fun k => fnd k L) :
    m__law_does [.obj f, .obj c, r] S = some (ans, (S.set c (hi [.bl sh'])).set f (dic (newL L nm fo'))) := by
  have hfl : f < S.length := (List.getElem?_eq_some_iff.mp h1).1
  have hcl : c < S.length := (List.getElem?_eq_some_iff.mp h2).1
  obtain ⟨kd, xs, er⟩ := req_tup hr
  refine runM_rt ?_
  unfold G__law_does
  have kne : eqD (.str kd) (.str "names") = some (.bl false) ∧ ninD (.str kd) (.lst [.str "shut", .str "isshut"]) = some (.bl nm.isSome) ∧ ixD r (.int 0) = some (.str kd) := by
    cases hr <;> cases er <;> exact ⟨by kernel_rfl, by kernel_rfl, by kernel_rfl⟩
  refine w_set (d := .str kd) (e2_val (x := r) (y := .int 0) rfl rfl kne.2.2) ?_
  refine w_f (qTp_val (b := false) (tB_val (x := .bl false) (e2_val (x := .str kd) (y := .str "names") rfl rfl kne.1) rfl)) (w_nil ?_)
  refine w_set (d := .non) rfl ?_
  have cont : ∀ F0 : D, F0 = fD (nm.bind fun k => fnd k L) → mForget [3] (mSeq (mSet 5 (qLkN (eL (mL 3 m__law_act) (aCons (eVar 4) (aCons (FL.e2 ixD (eVar 1) (eC (.int 0))) (aCons (eVar 2) aNil))))))
    (mSeq (mPutI 1 (eC (.int 0)) (qPure (FL.e2 ixD (eVar 5) (eC (.int 2)))))
    (mForget [1] (mSeq (mIf (qTp (FL.tAnd (FL.tB blD (FL.e2 isntD (FL.e2 ixD (eVar 5) (eC (.int 1))) (eC .non))) (FL.tB blD (FL.e2 neD (eVar 4) (FL.e2 ixD (eVar 5) (eC (.int 1)))))))
      (mSeq (mPutD 0 (FL.e2 ixD (eVar 2) (eC (.int 1))) (qPure (FL.e2 ixD (eVar 5) (eC (.int 1)))))
    mNil)
      mNil)
    (mSeq (mIf (qTp (FL.tAnd (FL.tB blD (FL.e2 isD (FL.e2 ixD (eVar 5) (eC (.int 1))) (eC .non))) (FL.tB blD (FL.e2 isntD (eVar 4) (eC .non)))))
      (mSeq (mPopD 0 (FL.e2 ixD (eVar 2) (eC (.int 1))))
    mNil)
      mNil)
    (mForget [0, 2, 4] (mSeq (mPure (sRet (FL.e2 ixD (eVar 5) (eC (.int 0)))))
    mNil))))))) [some (.obj f), some (.obj c), some r, some (.str kd), some F0, none] S = some (.rt ans ((S.set c (hi [.bl sh'])).set f (dic (newL L nm fo')))) := fun F0 hF0 => by
    subst hF0
    refine w_fg ?_
    have hfo : okS 4 (fD fo') = true := okS_fD fo'
    refine w_oset (d := .lst [ans, fD fo', .bl sh']) (S1 := S) (qLkN_val ?_ ?_) ?_
    · show eL _ _ ([shE S (some (.obj f)), shE S (some (.obj c)), shE S (some r), none, shE S (some (fD (nm.bind fun k => fnd k L))), none] : FL.Env) = _
      rw [shd_cls h2, sh_req hr]
      have e : shE S (some (fD (nm.bind fun k => fnd k L))) = some (fD (nm.bind fun k => fnd k L)) := by
        cases (nm.bind fun k => fnd k L) with
        | none => rfl
        | some q => obtain ⟨v, c, g⟩ := q; rfl
      rw [e]
      exact eL_val (ds := [fD (nm.bind fun k => fnd k L), .bl sh, r]) (aCons_val rfl (aCons_val (e2_val (x := .lst [.bl sh]) (y := .int 0) rfl rfl rfl) (aCons_val rfl rfl))) (mL_val rfl A.l)
    · show (noIns ans && (noIns (fD fo') && true)) = true
      rw [A.ni, noIn_fD]; rfl
    refine w_putI (ob := hi [.bl sh]) (t := c) (z := 0) (j := 0) (d := .bl sh') (S1 := S) (qPure_val (e2_val (x := .lst [ans, fD fo', .bl sh']) (y := .int 2) rfl rfl rfl)) rfl rfl h2 rfl rfl (w_fg ?_)
    have e1 : setL S c ((hi [.bl sh]).xs.set 0 (.bl sh')) = S.set c (hi [.bl sh']) := by unfold setL; rw [h2]; rfl
    rw [e1]
    have h1' : (S.set c (hi [.bl sh']))[f]? = some (dic L) := by rw [List.getElem?_set_ne hfc]; exact h1
    obtain ⟨q, hq1, hq2⟩ := deq_fD (nm.bind fun k => fnd k L) fo'
    have t1 : FL.tAnd (FL.tB blD (FL.e2 isntD (FL.e2 ixD (eVar 5) (eC (.int 1))) (eC .non))) (FL.tB blD (FL.e2 neD (eVar 4) (FL.e2 ixD (eVar 5) (eC (.int 1))))) [some (.obj f), none, some r, none, some (fD (nm.bind fun k => fnd k L)), some (.lst [ans, fD fo', .bl sh'])] = some (fo'.isSome && !q) := by
      refine and_v ?_ ?_
      · refine tB_val (x := .bl fo'.isSome) (e2_val (x := fD fo') (y := .non) (e2_val (x := .lst [ans, fD fo', .bl sh']) (y := .int 1) rfl rfl rfl) rfl ?_) rfl
        rcases fo' with _ | ⟨v, c, g⟩ <;> rfl
      · exact tB_val (x := .bl (!q)) (e2_val (x := fD (nm.bind fun k => fnd k L)) (y := fD fo') rfl (e2_val (x := .lst [ans, fD fo', .bl sh']) (y := .int 1) rfl rfl rfl) hq1) rfl
    have t2 : FL.tAnd (FL.tB blD (FL.e2 isD (FL.e2 ixD (eVar 5) (eC (.int 1))) (eC .non))) (FL.tB blD (FL.e2 isntD (eVar 4) (eC .non))) [some (.obj f), none, some r, none, some (fD (nm.bind fun k => fnd k L)), some (.lst [ans, fD fo', .bl sh'])] = some (fo'.isNone && (nm.bind fun k => fnd k L).isSome) := by
      refine and_v ?_ ?_
      · refine tB_val (x := .bl fo'.isNone) (e2_val (x := fD fo') (y := .non) (e2_val (x := .lst [ans, fD fo', .bl sh']) (y := .int 1) rfl rfl rfl) rfl ?_) rfl
        rcases fo' with _ | ⟨v, c, g⟩ <;> rfl
      · refine tB_val (x := .bl (nm.bind fun k => fnd k L).isSome) (e2_val (x := fD (nm.bind fun k => fnd k L)) (y := .non) rfl rfl ?_) rfl
        cases (nm.bind fun k => fnd k L) with
        | none => rfl
        | some q => obtain ⟨v, c, g⟩ := q; rfl
    have hnm : ∀ k, nm = some k → FL.e2 ixD (eVar 2) (eC (.int 1)) [some (.obj f), none, some r, none, some (fD (nm.bind fun k => fnd k L)), some (.lst [ans, fD fo', .bl sh'])] = some (.str k) := fun k e => by
      refine e2_val (x := r) (y := .int 1) rfl rfl ?_
      cases hr <;> cases e <;> rfl
    have fin : ∀ S', mForget [0, 2, 4] (mSeq (mPure (sRet (FL.e2 ixD (eVar 5) (eC (.int 0))))) mNil) [some (.obj f), none, some r, none, some (fD (nm.bind fun k => fnd k L)), some (.lst [ans, fD fo', .bl sh'])] S' = some (.rt ans S') := fun S' => w_fg (w_retP (e2_val (x := .lst [ans, fD fo', .bl sh']) (y := .int 0) rfl rfl rfl))
    cases nm with
    | none =>
      have e2 : fo' = none := hn rfl
      subst e2
      refine w_f (qTp_val t1) (w_nil (w_f (qTp_val t2) (w_nil ?_)))
      refine (fin _).trans ?_
      show some (MOut.rt ans (S.set c (hi [.bl sh']))) = some (MOut.rt ans ((S.set c (hi [.bl sh'])).set f (dic L)))
      rw [set_id h1']
    | some k =>
      rcases fo' with _ | f'
      · refine w_f (qTp_val t1) (w_nil ?_)
        cases hk : fnd k L with
        | none =>
          refine w_f (qTp_val (t2.trans (by show some (true && (fnd k L).isSome) = _; rw [hk]; rfl))) (w_nil ?_)
          refine (fin _).trans ?_
          show some (MOut.rt ans (S.set c (hi [.bl sh']))) = some (MOut.rt ans ((S.set c (hi [.bl sh'])).set f (dic (del k L))))
          rw [del_none hk, set_id h1']
        | some q0 =>
          refine w_t (qTp_val (t2.trans (by show some (true && (fnd k L).isSome) = _; rw [hk]; rfl))) (w_as ?_)
          refine w_popD (k := k) (t := f) (ob := dic L) (hnm k rfl) rfl h1' ⟨rfl, by show dhas k (ksL L) = true; rw [dhas_L, hk]; rfl⟩ (w_nil ?_)
          refine (fin _).trans ?_
          show some (MOut.rt ans ((S.set c (hi [.bl sh'])).set f ⟨.dic, "", ddelK k (ksL L), ddelX k (ksL L) (xsL L)⟩)) = _
          rw [ddelK_L, ddelX_L]
          rfl
      · cases hqv : q with
        | true =>
          have e3 : fnd k L = some f' := hq2.mp hqv
          refine w_f (qTp_val (t1.trans (by rw [hqv]; rfl))) (w_nil (w_f (qTp_val t2) (w_nil ?_)))
          refine (fin _).trans ?_
          show some (MOut.rt ans (S.set c (hi [.bl sh']))) = some (MOut.rt ans ((S.set c (hi [.bl sh'])).set f (dic (ins k f' L))))
          rw [ins_same hL e3, set_id h1']
        | false =>
          refine w_t (qTp_val (t1.trans (by rw [hqv]; rfl))) (w_as ?_)
          refine w_putD (k := k) (t := f) (ob := dic L) (d := fD (some f')) (S1 := S.set c (hi [.bl sh'])) (qPure_val (e2_val (x := .lst [ans, fD (some f'), .bl sh']) (y := .int 1) rfl rfl rfl)) (hnm k rfl) rfl h1' ⟨rfl, by show (ksL L).length < 1000; simp [ksL]; omega⟩ (w_nil ?_)
          refine w_f (qTp_val t2) (w_nil ?_)
          refine (fin _).trans ?_
          show some (MOut.rt ans ((S.set c (hi [.bl sh'])).set f ⟨.dic, "", dputK (ksL L) k, dputX k (fD (some f')) (ksL L) (xsL L)⟩)) = _
          rw [dputK_L k f', dputX_L]
          rfl
  cases nm with
  | none =>
    refine w_f (qTp_val (tB_val (x := .bl false) (e2_val (x := .str kd) (y := .lst [.str "shut", .str "isshut"]) rfl rfl kne.2.1) rfl)) (w_nil ?_)
    exact cont .non rfl
  | some k =>
    refine w_t (qTp_val (tB_val (x := .bl true) (e2_val (x := .str kd) (y := .lst [.str "shut", .str "isshut"]) rfl rfl kne.2.1) rfl)) (w_as ?_)
    refine w_oset (d := fD (fnd k L)) (S1 := S) (qLk_val ?_ (noIn_fD _)) (w_nil (cont _ rfl))
    show FL.e2 dgetND (eVar 0) _ ([shE S (some (.obj f)), shE S (some (.obj c)), shE S (some r), shE S (some (.str kd)), shE S (some .non), none] : FL.Env) = _
    rw [shd_dic h1, sh_req hr]
    refine e2_val (x := .dct (ksL L) (xsL L)) (y := nmD (some k)) rfl (e2_val (x := r) (y := .int 1) rfl rfl ?_) (dgetN_L (some k))
    cases hr <;> rfl
end
section
variable {hs : List D}
theorem history_v (L : FL2) (sh : Bool) (hl : hs.length < 100000) : m_Thing_history [thD hs L sh] = some (.lst hs) := by
  refine runD_rt ?_
  unfold G_Thing_history
  exact seq_ret (eL_val (ds := [.lst hs]) rfl rfl)
end
theorem new_thingP {S : List Ob} {rows : FL2} (hl : rows.length < 500) :
    m_Thing___init__ [.obj S.length, .lst (rows.map rowD)] (S ++ [⟨.ins, "Thing", [], []⟩]) = some (.non, S ++ [th (S.length + 1) (insAll rows []) false, hi []]) := by
  have setA : ∀ a b x : Ob, ((S ++ [a]) ++ [b]).set S.length x = S ++ [x, b] := fun a b x => by simp
  have setB : ∀ a b x : Ob, (S ++ [a, b]).set S.length x = S ++ [x, b] := fun a b x => by simp
  have getA : ∀ a b : Ob, (S ++ [a, b])[S.length]? = some a := fun a b => by simp
  have getA' : ∀ a b : Ob, ((S ++ [a]) ++ [b])[S.length]? = some a := fun a b => by simp
  refine runM_nx (ρ' := [some (.obj S.length), none, none, none, none, none]) ?_
  unfold G_Thing___init__
  refine w_ex (d := .non) (S1 := S ++ [⟨.ins, "Thing", ["_history"], [.obj (S.length + 1)]⟩, hi []]) (mCall_val (ds := [.obj S.length]) rfl rfl (runM_nx (ρ' := [some (.obj S.length)]) ?_)) ?_
  · unfold G_Recorded___init__
    refine w_putA (S1 := (S ++ [⟨.ins, "Thing", [], []⟩]) ++ [hi []]) (d := .obj (S ++ [⟨.ins, "Thing", [], []⟩] : List Ob).length) (ob := ⟨.ins, "Thing", [], []⟩) (t := S.length) (by rfl) rfl (getA' _ _) ⟨rfl, rfl, by show 0 < 1000; decide⟩ ?_
    rw [setA]
    have e : (S ++ [(⟨.ins, "Thing", [], []⟩ : Ob)]).length = S.length + 1 := by simp
    rw [e]
    rfl
  · refine w_putA (S1 := S ++ [⟨.ins, "Thing", ["_history"], [.obj (S.length + 1)]⟩, hi []]) (d := .dct (ksL (insAll rows [])) (xsL (insAll rows []))) (ob := ⟨.ins, "Thing", ["_history"], [.obj (S.length + 1)]⟩) (t := S.length) (qPure_val ?_) rfl (getA _ _) ⟨rfl, rfl, by show 1 < 1000; decide⟩ (w_fg ?_)
    · show eDc _ _ _ _ _ _ ([some (.obj S.length), some (.lst (rows.map rowD)), none, none, none, none] : FL.Env) = _
      generalize some (D.obj S.length) = A0
      unfold eDc
      rw [show iSeq isSeq (eVar 1) [A0, some (.lst (rows.map rowD)), none, none, none, none] = some (rows.map rowD) from rfl]
      dsimp only
      rw [if_pos (by rw [List.length_map]; omega)]
      show (match dcL (gTup (gCons (gSet 2) (gCons (gSet 3) (gCons (gSet 4) (gCons (gSet 5) gNil))))) tYesE (eVar 2) (eL tupD (aCons (eVar 3) (aCons (eVar 4) (aCons (eVar 5) aNil)))) [A0, some (.lst (rows.map rowD)), none, none, none, none] (rows.map rowD) (ksL []) (xsL []) with | some (ks, xs) => some (D.dct ks xs) | none => none) = _
      rw [dcL_rows rows [] (by simp; omega)]
    · rw [setB]
      refine w_putA (S1 := S ++ [⟨.ins, "Thing", ["_history", "_fields"], [.obj (S.length + 1), .dct (ksL (insAll rows [])) (xsL (insAll rows []))]⟩, hi []]) (d := .bl false) (ob := ⟨.ins, "Thing", ["_history", "_fields"], [.obj (S.length + 1), .dct (ksL (insAll rows [])) (xsL (insAll rows []))]⟩) (t := S.length) (by kernel_rfl) rfl (getA _ _) ⟨rfl, rfl, by show 2 < 1000; decide⟩ ?_
      rw [setB]
      rfl
theorem new_thing0 {S : List Ob} :
    m_Thing___init__ [.obj S.length, .tup []] (S ++ [⟨.ins, "Thing", [], []⟩]) = some (.non, S ++ [th (S.length + 1) [] false, hi []]) := by
  have setA : ∀ a b x : Ob, ((S ++ [a]) ++ [b]).set S.length x = S ++ [x, b] := fun a b x => by simp
  have setB : ∀ a b x : Ob, (S ++ [a, b]).set S.length x = S ++ [x, b] := fun a b x => by simp
  have getA : ∀ a b : Ob, (S ++ [a, b])[S.length]? = some a := fun a b => by simp
  have getA' : ∀ a b : Ob, ((S ++ [a]) ++ [b])[S.length]? = some a := fun a b => by simp
  refine runM_nx (ρ' := [some (.obj S.length), none, none, none, none, none]) ?_
  unfold G_Thing___init__
  refine w_ex (d := .non) (S1 := S ++ [⟨.ins, "Thing", ["_history"], [.obj (S.length + 1)]⟩, hi []]) (mCall_val (ds := [.obj S.length]) rfl rfl (runM_nx (ρ' := [some (.obj S.length)]) ?_)) ?_
  · unfold G_Recorded___init__
    refine w_putA (S1 := (S ++ [⟨.ins, "Thing", [], []⟩]) ++ [hi []]) (d := .obj (S ++ [⟨.ins, "Thing", [], []⟩] : List Ob).length) (ob := ⟨.ins, "Thing", [], []⟩) (t := S.length) (by rfl) rfl (by simp) ⟨rfl, rfl, by decide⟩ ?_
    rw [setA]
    have e : (S ++ [(⟨.ins, "Thing", [], []⟩ : Ob)]).length = S.length + 1 := by simp
    rw [e]
    rfl
  · refine w_putA (S1 := S ++ [⟨.ins, "Thing", ["_history"], [.obj (S.length + 1)]⟩, hi []]) (d := .dct [] []) (ob := ⟨.ins, "Thing", ["_history"], [.obj (S.length + 1)]⟩) (t := S.length) (qPure_val ?_) rfl (getA _ _) ⟨rfl, rfl, by show 1 < 1000; decide⟩ (w_fg ?_)
    · show eDc _ _ _ _ _ _ ([_, some (.tup []), none, none, none, none] : FL.Env) = _
      generalize some (D.obj S.length) = A0
      rfl
    · rw [setB]
      refine w_putA (S1 := S ++ [⟨.ins, "Thing", ["_history", "_fields"], [.obj (S.length + 1), .dct [] []]⟩, hi []]) (d := .bl false) (ob := ⟨.ins, "Thing", ["_history", "_fields"], [.obj (S.length + 1), .dct [] []]⟩) (t := S.length) (qPure_val rfl) rfl (getA _ _) ⟨rfl, rfl, by show 2 < 1000; decide⟩ ?_
      rw [setB]
      rfl
end LW
namespace LW
open PySem FL
/-! ### k13: a thing read by operators -/
def vD : Option Fl → D | none => .non | some f => .int f.1
theorem okS_vD (fo : Option Fl) : okS 4 (vD fo) = true := by rcases fo with _ | f <;> rfl
section
variable {hs : List D} {L : FL2} {sh : Bool} {lab : Str}
theorem getitem_v : m_Thing___getitem__ [thD hs L sh, .str lab] = some (vD (fnd lab L)) := by
  refine runD_rt ?_
  unfold G_Thing___getitem__
  refine seq_set (d := fD (fnd lab L)) (e2_val (x := .dct (ksL L) (xsL L)) (y := .str lab) rfl rfl (dgetN_L (some lab))) (seq_fg (seq_ret ?_))
  rcases fnd lab L with _ | ⟨v, c, g⟩
  · kernel_rfl
  · kernel_rfl
theorem din_v : dinD false (.str lab) (.dct (ksL L) (xsL L)) = some (.bl (fnd lab L).isSome) := by
  show some (D.bl (dhas lab (ksL L))) = _
  rw [dhas_L]
theorem contains_v : m_Thing___contains__ [thD hs L sh, .str lab] = some (.bl (fnd lab L).isSome) := by
  refine runD_rt ?_
  unfold G_Thing___contains__
  exact seq_ret (e2_val (x := .str lab) (y := .dct (ksL L) (xsL L)) rfl rfl din_v)
theorem bool_v : m_Thing___bool__ [thD hs L sh] = some (.bl sh) := by
  refine runD_rt ?_
  unfold G_Thing___bool__
  refine seq_ret (e2_val (x := .bl sh) (y := .bl true) rfl rfl ?_)
  cases sh <;> kernel_rfl
theorem shut_v : m_Thing_is_shut [thD hs L sh] = some (.bl sh) := by
  refine runD_rt ?_
  unfold G_Thing_is_shut
  exact seq_ret rfl
theorem comp_ids {a0 a1 a2 a3 a4 : Option D} : ∀ ks : List Str, compL (gSet 5) tYesE (eVar 5) [a0, a1, a2, a3, a4, none] (ks.map D.str) = some (ks.map D.str)
  | [] => rfl
  | k :: ks => by
    show compL _ _ _ _ (.str k :: ks.map D.str) = _
    unfold compL
    rw [show gSet 5 (.str k) [a0, a1, a2, a3, a4, none] = some [a0, a1, a2, a3, a4, some (.str k)] from rfl]
    dsimp only
    rw [show tYesE [a0, a1, a2, a3, a4, some (.str k)] = some true from rfl]
    dsimp only
    rw [show eVar 5 [a0, a1, a2, a3, a4, some (.str k)] = some (.str k) from rfl]
    dsimp only
    rw [comp_ids ks]
    rfl
theorem okS_strs (h : L.length < 1000) : okS 4 (.lst ((ksL L).map D.str)) = true := okS_lst (by simp [ksL]; omega) fun x hx => by
  obtain ⟨k, _, rfl⟩ := List.mem_map.mp hx
  rfl
theorem looks_v (hl : L.length < 500) : m__law_looks [thD hs L sh, .str lab, .dct (ksL L) (xsL L), .lst [.bl sh]] = some (.bl true) := by
  refine runD_rt ?_
  unfold G__law_looks
  refine seq_set (d := .non) rfl ?_
  have rest : (sSeq (sIf (FL.tOr (FL.tNot (FL.tB truD (eL (mL 2 (m__law_is_same 6)) (aCons (FL.e2 (ixI "Thing" m_Thing___getitem__) (eVar 0) (eVar 1)) (aCons (eVar 4) aNil))))) (FL.tNot (FL.tB truD (eL (mL 2 (m__law_is_same 6)) (aCons (FL.e2 (inI "Thing" m_Thing___contains__ false) (eVar 1) (eVar 0)) (aCons (FL.e2 (dinD false) (eVar 1) (eVar 2)) aNil))))))
      (sSeq (sRet (eC (.bl false)))
    sNil)
      sNil)
    (sForget [1, 4] (sSeq (sIf (FL.tNot (FL.tB truD (eL (mL 2 (m__law_is_same 6)) (aCons (eLcO 0 "Thing" "_fields" [5] (gSet 5) (eVar 5)) (aCons (eLstD (eVar 2)) aNil)))))
      (sSeq (sRet (eC (.bl false)))
    sNil)
      sNil)
    (sForget [2] (sSeq (sRet (eAnd (eL (mL 2 (m__law_is_same 6)) (aCons (eL (boolI "Thing" m_Thing___bool__) (aCons (eVar 0) aNil)) (aCons (FL.e2 ixD (eVar 3) (eC (.int 0))) aNil))) (eL (mL 2 (m__law_is_same 6)) (aCons (eP "Thing" m_Thing_is_shut (eVar 0)) (aCons (FL.e2 ixD (eVar 3) (eC (.int 0))) aNil)))))
    sNil))))) [some (thD hs L sh), some (.str lab), some (.dct (ksL L) (xsL L)), some (.lst [.bl sh]), some (vD (fnd lab L)), none] = some (.rt (.bl true)) := by
    have s1 : eL (mL 2 (m__law_is_same 6)) (aCons (FL.e2 (ixI "Thing" m_Thing___getitem__) (eVar 0) (eVar 1)) (aCons (eVar 4) aNil)) [some (thD hs L sh), some (.str lab), some (.dct (ksL L) (xsL L)), some (.lst [.bl sh]), some (vD (fnd lab L)), none] = some (.bl true) := by
      refine eL_val (ds := [vD (fnd lab L), vD (fnd lab L)]) (aCons_val (e2_val (x := thD hs L sh) (y := .str lab) rfl rfl ?_) rfl) (mL_val rfl (same_ok (okS_vD _)))
      show (if ("Thing" : Str) = "Thing" then m_Thing___getitem__ [thD hs L sh, .str lab] else none) = _
      rw [if_pos rfl]
      exact getitem_v
    have s2 : eL (mL 2 (m__law_is_same 6)) (aCons (FL.e2 (inI "Thing" m_Thing___contains__ false) (eVar 1) (eVar 0)) (aCons (FL.e2 (dinD false) (eVar 1) (eVar 2)) aNil)) [some (thD hs L sh), some (.str lab), some (.dct (ksL L) (xsL L)), some (.lst [.bl sh]), some (vD (fnd lab L)), none] = some (.bl true) := by
      refine eL_val (ds := [.bl (fnd lab L).isSome, .bl (fnd lab L).isSome]) (aCons_val (e2_val (x := .str lab) (y := thD hs L sh) rfl rfl ?_) (aCons_val (e2_val (x := .str lab) (y := .dct (ksL L) (xsL L)) rfl rfl din_v) rfl)) (mL_val rfl (same_ok rfl))
      show (if ("Thing" : Str) = "Thing" then (match m_Thing___contains__ [thD hs L sh, .str lab] with | some (.bl t) => some (D.bl (false != t)) | _ => none) else none) = _
      rw [if_pos rfl, contains_v]
      cases (fnd lab L).isSome <;> rfl
    refine seq_f (or_f (not_val (b := true) (tB_val (x := .bl true) s1 rfl)) (not_val (b := true) (tB_val (x := .bl true) s2 rfl))) (seq_nil (seq_fg ?_))
    have s3 : eL (mL 2 (m__law_is_same 6)) (aCons (eLcO 0 "Thing" "_fields" [5] (gSet 5) (eVar 5)) (aCons (eLstD (eVar 2)) aNil)) [some (thD hs L sh), none, some (.dct (ksL L) (xsL L)), some (.lst [.bl sh]), none, none] = some (.bl true) := by
      refine eL_val (ds := [.lst ((ksL L).map D.str), .lst ((ksL L).map D.str)]) (aCons_val ?_ rfl) (mL_val rfl (same_ok (okS_strs (by omega))))
      unfold eLcO
      show (if (ksL L).length ≤ sizeLine then (match compL (gSet 5) tYesE (eVar 5) [some (thD hs L sh), none, some (.dct (ksL L) (xsL L)), some (.lst [.bl sh]), none, none] ((ksL L).map D.str) with | some ys => some (D.lst ys) | none => none) else none) = _
      rw [if_pos (by rw [sizeLine_eq]; simp [ksL]; omega), comp_ids]
    refine seq_f (not_val (b := true) (tB_val (x := .bl true) s3 rfl)) (seq_nil (seq_fg (seq_ret ?_)))
    have s4 : eL (mL 2 (m__law_is_same 6)) (aCons (eL (boolI "Thing" m_Thing___bool__) (aCons (eVar 0) aNil)) (aCons (FL.e2 ixD (eVar 3) (eC (.int 0))) aNil)) [some (thD hs L sh), none, none, some (.lst [.bl sh]), none, none] = some (.bl true) := by
      refine eL_val (ds := [.bl sh, .bl sh]) (aCons_val (eL_val (ds := [thD hs L sh]) rfl ?_) (aCons_val (e2_val (x := .lst [.bl sh]) (y := .int 0) rfl rfl rfl) rfl)) (mL_val rfl (same_ok rfl))
      show (if ("Thing" : Str) = "Thing" then (match m_Thing___bool__ [thD hs L sh] with | some (.bl t) => some (D.bl t) | _ => none) else none) = _
      rw [if_pos rfl, bool_v]
    have s5 : eL (mL 2 (m__law_is_same 6)) (aCons (eP "Thing" m_Thing_is_shut (eVar 0)) (aCons (FL.e2 ixD (eVar 3) (eC (.int 0))) aNil)) [some (thD hs L sh), none, none, some (.lst [.bl sh]), none, none] = some (.bl true) := by
      refine eL_val (ds := [.bl sh, .bl sh]) (aCons_val ?_ (aCons_val (e2_val (x := .lst [.bl sh]) (y := .int 0) rfl rfl rfl) rfl)) (mL_val rfl (same_ok rfl))
      show (if ("Thing" : Str) = "Thing" then m_Thing_is_shut [thD hs L sh] else none) = _
      rw [if_pos rfl]
      exact shut_v
    show eAnd _ _ [some (thD hs L sh), none, none, some (.lst [.bl sh]), none, none] = _
    unfold eAnd
    rw [s4]
    exact s5
  refine seq_if (b := (fnd lab L).isSome) (tB_val (x := .bl (fnd lab L).isSome) (e2_val (x := .str lab) (y := .dct (ksL L) (xsL L)) rfl rfl din_v) rfl) (fun hb => ?_) (fun hb => ?_)
  · obtain ⟨⟨v, c, g⟩, hf⟩ := Option.isSome_iff_exists.mp hb
    refine seq_as (seq_set (d := vD (fnd lab L)) (e2_val (x := fD (some (v, c, g))) (y := .int 0) (e2_val (x := .dct (ksL L) (xsL L)) (y := .str lab) rfl rfl ?_) rfl ?_) (seq_nil rest))
    · show dget lab (ksL L) (xsL L) = _
      rw [dget_L, hf]
      rfl
    · rw [hf]; rfl
  · have hf : fnd lab L = none := by
      rcases h : fnd lab L with _ | f
      · rfl
      · rw [h] at hb; cases hb
    refine seq_nil ?_
    have e : (D.non : D) = vD (fnd lab L) := by rw [hf]; rfl
    rw [e]
    exact rest
end
end LW
namespace LW
open PySem FL
/-! ### k13: a thing assigned to -/
def setR (lab : Str) (v : Int) : D := .tup [.str "set", .str lab, .int v]
theorem set_act (lab : Str) (v : Int) (fo : Option Fl) (sh : Bool) : ∃ b fo', Act (setR lab v) fo sh (.bl b) fo' sh := by
  rcases fo with _ | ⟨w, c, g⟩
  · cases sh
    · exact ⟨true, some (v, true, true), ⟨by kernel_rfl, by kernel_rfl, rfl, rfl⟩⟩
    · exact ⟨false, none, ⟨by kernel_rfl, by kernel_rfl, rfl, rfl⟩⟩
  · cases c
    · exact ⟨false, some (w, false, g), ⟨by kernel_rfl, by kernel_rfl, rfl, rfl⟩⟩
    · exact ⟨true, some (v, true, g), ⟨by kernel_rfl, by kernel_rfl, rfl, rfl⟩⟩
theorem shut_act (fo : Option Fl) (sh : Bool) : Act (.tup [.str "shut"]) fo sh (.bl true) fo true := ⟨by kernel_rfl, by kernel_rfl, rfl, rfl⟩
theorem rok_all : (letters.all fun l => (List.range 10).all fun v => rOk (setR l (v : Int))) = true := by kernel_rfl
theorem rok_set {lab : Str} {v : Int} (h : lab ∈ letters) (h0 : 0 ≤ v) (h9 : v < 10) : rOk (setR lab v) = true := by
  have a := List.all_eq_true.mp rok_all lab h
  have b := List.all_eq_true.mp a v.toNat (List.mem_range.mpr (by omega))
  have e : ((v.toNat : Nat) : Int) = v := by omega
  have b' : rOk (setR lab ((v.toNat : Nat) : Int)) = true := b
  rwa [e] at b'
theorem hIf_f {T : FL.Env → Option Bool} {F G : FL.Env → Option D} {ρ : FL.Env} {o : Option D} (h : T ρ = some false) (k : G ρ = o) : hIf T F G ρ = o := by
  unfold hIf
  rw [h]
  exact k
theorem refusal_v {lab : Str} {v : Int} : me__law_is_refusal [setR lab v] [setR lab v] = some (.str "refused") := by
  have s : m__law_is_same 6 [setR lab v, setR lab v] = some (.bl true) := same_ok rfl
  show GE__law_is_refusal [setR lab v] [none, some (setR lab v)] = _
  unfold GE__law_is_refusal
  have e1 : (FL.e2 ixD (eL lstD (aK [(.str "wrong"), (.str "refused")])) (eL intD (aCons (eL (mL 2 (m__law_is_same 6)) (aCons (fun _ => (List.zip (["deed"] : List Str) [setR lab v]).lookup ("deed" : Str)) (aCons (eVar 1) aNil))) aNil))) [none, some (setR lab v)] = some (.str "refused") := by
    refine e2_val (x := .lst [.str "wrong", .str "refused"]) (y := .int 1) rfl (eL_val (ds := [.bl true]) (aCons_val (eL_val (ds := [setR lab v, setR lab v]) (aCons_val (by kernel_rfl) rfl) (mL_val rfl s)) rfl) rfl) (by kernel_rfl)
  exact hIf_f rfl (hIf_f rfl e1)
section
variable {S : List Ob} {i j : Nat} {L : FL2} {sh : Bool} {hs : List D} {lab : Str} {v : Int} {b : Bool} {fo' : Option Fl}
theorem meAsk (h1 : S[i]? = some (th j L sh)) (h2 : S[j]? = some (hi hs)) (hij : i ≠ j) (he : EvT hs) (hL : (ksL L).Nodup) (hl : L.length < 500) (hh : hs.length < 1000) (hb : lab ∈ letters) (A : Act (setR lab v) (fnd lab L) sh (.bl b) fo' sh) {ρ : FL.Env} (r0 : ρ[0]? = some (some (.obj i))) (r3 : ρ[3]? = some (some (setR lab v))) :
    qNot (qBl (mMe "Thing" "ask" 2 m_Thing_ask (eVar 0) (qPureA (aCons (eVar 3) aNil)))) ρ S = some (!b, (S.set i (th j (updL lab fo' L) sh)).set j (hi (hs ++ [.tup [setR lab v, .bl b]]))) := by
  refine qNot_val (qBl_val (mMe_val (ds := [setR lab v]) (ob := th j L sh) (var_v r0) h1 ⟨rfl, rfl, by kernel_rfl⟩ (qPureA_val (aCons_val (var_v r3) rfl)) rfl ?_))
  exact ask_v (nm := some lab) h1 h2 hij he hL hl hh (.set lab v hb) A
theorem setitem_t (h1 : S[i]? = some (th j L sh)) (h2 : S[j]? = some (hi hs)) (hij : i ≠ j) (he : EvT hs) (hL : (ksL L).Nodup) (hl : L.length < 500) (hh : hs.length < 1000) (hb : lab ∈ letters) (A : Act (setR lab v) (fnd lab L) sh (.bl true) fo' sh) :
    m_Thing___setitem__ [.obj i, .str lab, .int v] S = some (.non, (S.set i (th j (updL lab fo' L) sh)).set j (hi (hs ++ [.tup [setR lab v, .bl true]]))) := by
  refine runM_nx (ρ' := [some (.obj i), none, none, some (setR lab v)]) ?_
  unfold G_Thing___setitem__
  refine w_set (d := setR lab v) rfl (w_fg ?_)
  exact w_f (meAsk h1 h2 hij he hL hl hh hb A rfl rfl) (w_nil rfl)
theorem setitem_f (h1 : S[i]? = some (th j L sh)) (h2 : S[j]? = some (hi hs)) (hij : i ≠ j) (he : EvT hs) (hL : (ksL L).Nodup) (hl : L.length < 500) (hh : hs.length < 1000) (hb : lab ∈ letters) (A : Act (setR lab v) (fnd lab L) sh (.bl false) fo' sh) :
    m_Thing___setitem__ [.obj i, .str lab, .int v] S = none := by
  have e : G_Thing___setitem__ (envOf 4 3 [.obj i, .str lab, .int v]) S = none := by
    unfold G_Thing___setitem__
    refine w_set (d := setR lab v) rfl (w_fg ?_)
    exact w_t (meAsk h1 h2 hij he hL hl hh hb A rfl rfl) rfl
  show runM 4 3 G_Thing___setitem__ _ S = none
  unfold runM
  rw [e]
theorem setitem_x (h1 : S[i]? = some (th j L sh)) (h2 : S[j]? = some (hi hs)) (hij : i ≠ j) (he : EvT hs) (hL : (ksL L).Nodup) (hl : L.length < 500) (hh : hs.length < 1000) (hb : lab ∈ letters) (h0 : 0 ≤ v) (h9 : v < 10) (A : Act (setR lab v) (fnd lab L) sh (.bl false) fo' sh) :
    mmx_Thing___setitem__ [.obj i, .str lab, .int v] S = some (⟨"Refused", ["deed"], [setR lab v]⟩, (S.set i (th j (updL lab fo' L) sh)).set j (hi (hs ++ [.tup [setR lab v, .bl false]]))) := by
  have e : GMX_Thing___setitem__ (envOf 4 3 [.obj i, .str lab, .int v]) S = some (⟨"Refused", ["deed"], [setR lab v]⟩, [some (.obj i), some (.str lab), some (.int v), some (setR lab v)], (S.set i (th j (updL lab fo' L) sh)).set j (hi (hs ++ [.tup [setR lab v, .bl false]]))) := by
    unfold GMX_Thing___setitem__
    show xmIf _ _ _ [some (.obj i), some (.str lab), some (.int v), some (setR lab v)] S = _
    unfold xmIf
    rw [meAsk h1 h2 hij he hL hl hh hb A rfl rfl]
    have er : xRaise "Refused" "deed" (eVar 3) [some (.obj i), some (.str lab), some (.int v), some (setR lab v)] = some ⟨"Refused", "deed", setR lab v⟩ := by
      unfold xRaise
      show (if rOk (setR lab v) = true then some (⟨"Refused", "deed", setR lab v⟩ : XC) else none) = _
      rw [if_pos (rok_set hb h0 h9)]
    show xmPure _ _ _ = _
    unfold xmPure xHere
    rw [er]
  show runMX 4 3 GMX_Thing___setitem__ _ S = _
  unfold runMX
  rw [e]
theorem tryX_t {i0 : Nat} {c : Str} {fs : List Str} {G K : FL.Env → List Ob → Option MOut} {GX : FL.Env → List Ob → Option (XM × FL.Env × List Ob)} {HX : List D → FL.Env → Option D} {ρ ρ' : FL.Env} {S1 : List Ob} {o : Option MOut} (h : G ρ S = some (.nx ρ' S1)) (k : K ρ' S1 = o) : mSeq (mTryX i0 c fs G GX HX) K ρ S = o := by
  have e : mTryX i0 c fs G GX HX ρ S = some (.nx ρ' S1) := by unfold mTryX; rw [h]
  unfold mSeq
  rw [e]
  exact k
theorem tryX_x {i0 : Nat} {c : Str} {fs : List Str} {xs : List D} {d : D} {G K : FL.Env → List Ob → Option MOut} {GX : FL.Env → List Ob → Option (XM × FL.Env × List Ob)} {HX : List D → FL.Env → Option D} {ρ ρ' : FL.Env} {S1 : List Ob} (h : G ρ S = none) (h2 : GX ρ S = some (⟨c, fs, xs⟩, ρ', S1)) (hl : i0 < ρ'.length) (h3 : HX xs (ρ'.set i0 none) = some d) : mSeq (mTryX i0 c fs G GX HX) K ρ S = some (.rt d S1) := by
  have e : mTryX i0 c fs G GX HX ρ S = some (.rt d S1) := by
    unfold mTryX
    rw [h]
    dsimp only
    rw [h2]
    dsimp only
    rw [if_pos ⟨rfl, rfl, hl⟩, h3]
  unfold mSeq
  rw [e]
theorem setOwn_e {c : Str} {mir : List D → List Ob → Option (D × List Ob)} {Fo Fi Fv : FL.Env → Option D} {ρ : FL.Env} {y z : D} {ob : Ob} {r : Option (D × List Ob)} (hv : Fv ρ = some y) (ho : Fo ρ = some (.obj i)) (hi : Fi ρ = some z) (h1 : S[i]? = some ob) (h2 : ob.k = .ins ∧ ob.c = c) (h3 : mir [.obj i, z, y] S = r) :
    mSeq (mSetOwn c mir Fo Fi Fv) mNil ρ S = r.map fun p => .nx ρ p.2 := by
  have e : mSetOwn c mir Fo Fi Fv ρ S = r.map fun p => .nx ρ p.2 := by
    unfold mSetOwn
    rw [hv]
    dsimp only
    rw [ho]
    dsimp only
    rw [hi]
    dsimp only
    rw [h1]
    dsimp only
    rw [if_pos h2, h3]
    cases r <;> rfl
  unfold mSeq
  rw [e]
  cases r <;> rfl
theorem xmSetOwn_e {c : Str} {mir : List D → List Ob → Option (XM × List Ob)} {Fo Fi Fv : FL.Env → Option D} {ρ : FL.Env} {y z : D} {ob : Ob} {x : XM} {S1 : List Ob} (hv : Fv ρ = some y) (ho : Fo ρ = some (.obj i)) (hi : Fi ρ = some z) (h1 : S[i]? = some ob) (h2 : ob.k = .ins ∧ ob.c = c) (h3 : mir [.obj i, z, y] S = some (x, S1)) :
    xmSetOwn c mir Fo Fi Fv ρ S = some (x, ρ, S1) := by
  unfold xmSetOwn
  rw [hv]
  dsimp only
  rw [ho]
  dsimp only
  rw [hi]
  dsimp only
  rw [h1]
  dsimp only
  rw [if_pos h2, h3]
theorem assigns_v (h1 : S[i]? = some (th j L sh)) (h2 : S[j]? = some (hi hs)) (hij : i ≠ j) (he : EvT hs) (hL : (ksL L).Nodup) (hl : L.length < 500) (hh : hs.length < 1000) (hb : lab ∈ letters) (h0 : 0 ≤ v) (h9 : v < 10) (A : Act (setR lab v) (fnd lab L) sh (.bl b) fo' sh) :
    m__law_assigns [.obj i, .str lab, .int v] S = some (.str (if b = true then "done" else "refused"), (S.set i (th j (updL lab fo' L) sh)).set j (hi (hs ++ [.tup [setR lab v, .bl b]]))) := by
  refine runM_rt ?_
  unfold G__law_assigns
  cases b with
  | true => exact tryX_t (setOwn_e (r := some (.non, _)) rfl rfl rfl h1 ⟨rfl, rfl⟩ (setitem_t h1 h2 hij he hL hl hh hb A)) (w_fg (w_retP rfl))
  | false =>
    refine tryX_x (xs := [setR lab v]) (d := .str "refused") (setOwn_e (r := none) rfl rfl rfl h1 ⟨rfl, rfl⟩ (setitem_f h1 h2 hij he hL hl hh hb A)) (xmSetOwn_e rfl rfl rfl h1 ⟨rfl, rfl⟩ (setitem_x h1 h2 hij he hL hl hh hb h0 h9 A)) (by show 3 < 4; decide) ?_
    show eHE 2 me__law_is_refusal [setR lab v] (aCons (eL tupD (aCons (eC (.str "set")) (aCons (eVar 1) (aCons (eVar 2) aNil)))) aNil) [some (.obj i), some (.str lab), some (.int v), none] = some (.str "refused")
    show (if ([setR lab v] : List D).length + 1 = 2 then me__law_is_refusal [setR lab v] [setR lab v] else none) = _
    rw [if_pos (by rfl)]
    exact refusal_v
end
end LW
namespace LW
open PySem FL
/-! ### k13 -/
structure St (t : Nat) (S : List Ob) (L : FL2) (sh : Bool) (hs : List D) : Prop where
  a : S[t]? = some (th (t + 1) L sh)
  b : S[t + 1]? = some (hi hs)
  c : S[t + 2]? = some (dic L)
  d : S[t + 3]? = some (hi [.bl sh])
  e : S[t + 4]? = some (hi hs)
theorem St.len {t : Nat} {S : List Ob} {L : FL2} {sh : Bool} {hs : List D} (h : St t S L sh hs) : t + 4 < S.length := (List.getElem?_eq_some_iff.mp h.e).1
theorem St.upd {t : Nat} {S : List Ob} {L L' : FL2} {sh sh' : Bool} {hs hs' : List D} (h : St t S L sh hs) : St t (((((S.set (t + 3) (hi [.bl sh'])).set (t + 2) (dic L')).set (t + 4) (hi hs')).set t (th (t + 1) L' sh')).set (t + 1) (hi hs')) L' sh' hs' := by
  have hl := h.len
  refine ⟨?_, ?_, ?_, ?_, ?_⟩ <;> simp [List.getElem?_set] <;> omega
theorem at_ne {S : List Ob} {i j : Nat} {x y : Ob} (h : S[j]? = some y) (n : i ≠ j) : (S.set i x)[j]? = some y := by rw [List.getElem?_set_ne n]; exact h
section
variable {X : D} {t : Nat} {S : List Ob} {L : FL2} {sh : Bool} {hs : List D} {z : Int} {z8 z9 z10 : Option D}
def env13 (x0 : Option D) (t : Nat) (z7 z8 z9 z10 : Option D) : FL.Env := [x0, none, some (.obj t), some (.obj (t + 2)), none, some (.obj (t + 3)), some (.obj (t + 4)), z7, z8, z9, z10]
theorem shLooks {lab : Str} {x0 z7 z9 z10 : Option D} (h : St t S L sh hs) (hT : EvT hs) (hl : L.length < 500) {F : FL.Env → Option D} {z8 : Option D} (hF : F ((env13 x0 t z7 z8 z9 z10).map (shE S)) = some (.str lab)) :
    eL (mL 4 m__law_looks) (aCons (eVar 2) (aCons F (aCons (eVar 3) (aCons (eVar 5) aNil)))) ((env13 x0 t z7 z8 z9 z10).map (shE S)) = some (.bl true) := by
  have e1 : shE S (some (.obj t)) = some (thD hs L sh) := shd_thing h.a h.b hT
  have e2 : shE S (some (.obj (t + 2))) = some (.dct (ksL L) (xsL L)) := shd_dic h.c
  have e3 : shE S (some (.obj (t + 3))) = some (.lst [.bl sh]) := shd_cls h.d
  exact eL_val (ds := [thD hs L sh, .str lab, .dct (ksL L) (xsL L), .lst [.bl sh]]) (aCons_val (var_v (k := 2) (congrArg some e1)) (aCons_val hF (aCons_val (var_v (k := 3) (congrArg some e2)) (aCons_val (var_v (k := 5) (congrArg some e3)) rfl)))) (mL_val rfl (looks_v hl))
theorem told_app {ρ : FL.Env} {d : D} {A : FL.Env → Option (List D)} {K : FL.Env → List Ob → Option MOut} {o : Option MOut} (r : ρ[6]? = some (some (.obj (t + 4)))) (h : S[t + 4]? = some (hi hs)) (hl : hs.length < 1000) (hA : A ρ = some [d]) (k : K ρ (S.set (t + 4) (hi (hs ++ [d]))) = o) : mSeq (mMut 6 appendF (qPureA A)) K ρ S = o := by
  refine w_mut (t := t + 4) (ob := hi hs) (ob1 := hi hs) (ds := [d]) (ys := hs ++ [d]) (S1 := S) r h rfl (qPureA_val hA) h rfl ?_ ?_
  · unfold appendF
    dsimp only
    rw [if_pos (by show hs.length < sizeLine; rw [sizeLine_eq]; omega)]
    rfl
  · have e : setL S (t + 4) (hs ++ [d]) = S.set (t + 4) (hi (hs ++ [d])) := by unfold setL; rw [h]; rfl
    rw [e]
    exact k
theorem step_v {x0 : Option D} (h : St t S L sh hs) (hN : (ksL L).Nodup) (hl : L.length < 400) (hT : Told hs) (hh : hs.length < 900) :
    ∃ S2 L2 sh2 hs2 z9' z10' z8', L_law_1 (env13 x0 t (some (.int z)) z8 z9 z10) S = some (.nx (env13 x0 t (some (.int z)) z8' z9' z10') S2) ∧ St t S2 L2 sh2 hs2 ∧ (ksL L2).Nodup ∧ L2.length ≤ L.length + 1 ∧ Told hs2 ∧ hs2.length = hs.length + 1 := by
  obtain ⟨lab, hlab, hlm⟩ := label_fl (z / 8)
  have hlen := h.len
  have he := hT.ev
  by_cases hz : z / 640 % 20 = 1
  · have A := shut_act none sh
    have ev : Told (hs ++ [.tup [.tup [.str "shut"], .bl true]]) := hT.add rfl rfl rfl rfl
    refine ⟨_, L, true, hs ++ [.tup [.tup [.str "shut"], .bl true]], z9, z10, some (.str lab), ?_, h.upd (L' := L) (sh' := true) (hs' := hs ++ [.tup [.tup [.str "shut"], .bl true]]), hN, by omega, ev, by simp⟩
    unfold L_law_1
    refine w_set (d := .str lab) (e2_val (x := .str "abcdefgh") (y := .int (z / 8 % 8)) rfl (mod_v 8 (by decide) (int_v (fdiv_v 8 (by decide) rfl))) hlab) ?_
    show mSeq (mIf (qTl _) _ _) _ (env13 x0 t (some (.int z)) (some (.str lab)) z9 z10) S = _
    refine w_f (qTl_val (b := false) (not_val (b := true) (tB_val (x := .bl true) (shLooks h he (by omega) rfl) rfl))) (w_nil ?_)
    refine w_if (b := z / 640 % 20 == 1) (qTp_val (teq_v (mod_v 20 (by decide) (int_v (fdiv_v 640 (by decide) rfl))) rfl)) (fun _ => ?_) (fun hb => absurd hz (by simpa using hb))
    refine w_as (w_ex (mCall_val (ds := [.obj (t + 2), .obj (t + 3), .tup [.str "shut"]]) rfl rfl (does_v (nm := none) h.c h.d (by omega) hN (by omega) .shut A fun _ => rfl)) ?_)
    refine w_as (told_app rfl (hs := hs) (at_ne (at_ne h.e (by omega)) (by omega)) (by omega) rfl ?_)
    refine w_as (w_f (qBl_val (b := false) (qE2_val (x := .bl true) (y := .bl true) (mMe_val (ds := [.tup [.str "shut"]]) (ob := th (t + 1) L sh) rfl (at_ne (at_ne (at_ne h.a (by omega)) (by omega)) (by omega)) ⟨rfl, rfl, by kernel_rfl⟩ (qPureA_val rfl) rfl (ask_v (nm := none) (at_ne (at_ne (at_ne h.a (by omega)) (by omega)) (by omega)) (at_ne (at_ne (at_ne h.b (by omega)) (by omega)) (by omega)) (by omega) he hN (by omega) (by omega) .shut A)) rfl (by kernel_rfl))) (w_nil ?_))
    rfl
  · obtain ⟨b, fo', A⟩ := set_act lab (z / 64 % 10) (fnd lab L) sh
    have ev : Told (hs ++ [.tup [setR lab (z / 64 % 10), .bl b]]) := hT.add rfl rfl rfl rfl
    refine ⟨_, updL lab fo' L, sh, hs ++ [.tup [setR lab (z / 64 % 10), .bl b]], some (setR lab (z / 64 % 10)), some (.bl b), some (.str lab), ?_, h.upd (L' := updL lab fo' L) (sh' := sh) (hs' := hs ++ [.tup [setR lab (z / 64 % 10), .bl b]]), nodup_upd hN, len_upd, ev, by simp⟩
    unfold L_law_1
    refine w_set (d := .str lab) (e2_val (x := .str "abcdefgh") (y := .int (z / 8 % 8)) rfl (mod_v 8 (by decide) (int_v (fdiv_v 8 (by decide) rfl))) hlab) ?_
    show mSeq (mIf (qTl _) _ _) _ (env13 x0 t (some (.int z)) (some (.str lab)) z9 z10) S = _
    refine w_f (qTl_val (b := false) (not_val (b := true) (tB_val (x := .bl true) (shLooks h he (by omega) rfl) rfl))) (w_nil ?_)
    refine w_if (b := z / 640 % 20 == 1) (qTp_val (teq_v (mod_v 20 (by decide) (int_v (fdiv_v 640 (by decide) rfl))) rfl)) (fun hb => absurd (by simpa using hb) hz) (fun _ => ?_)
    have hv : ∀ (a b c : Option D), FL.e2 modD (eL intD (aCons (FL.e2 fdivD (eVar 7) (eC (.int 64))) aNil)) (eC (.int 10)) (env13 x0 t (some (.int z)) a b c) = some (.int (z / 64 % 10)) := fun a b c => mod_v 10 (by decide) (int_v (fdiv_v 64 (by decide) rfl))
    refine w_as (w_set (d := setR lab (z / 64 % 10)) (eL_val (ds := [.str "set", .str lab, .int (z / 64 % 10)]) (aCons_val rfl (aCons_val rfl (aCons_val (hv _ _ _) rfl))) rfl) ?_)
    refine w_as (w_oset (d := .bl b) (mCall_val (ds := [.obj (t + 2), .obj (t + 3), setR lab (z / 64 % 10)]) rfl rfl (does_v (nm := some lab) h.c h.d (by omega) hN (by omega) (.set lab _ hlm) A fun q => nomatch q)) ?_)
    show mSeq (mSeq _ _) _ (env13 x0 t (some (.int z)) (some (.str lab)) (some (setR lab (z / 64 % 10))) (some (.bl b))) _ = _
    refine w_as (told_app rfl (hs := hs) (d := .tup [setR lab (z / 64 % 10), .bl b]) (at_ne (at_ne h.e (by omega)) (by omega)) (by omega) rfl ?_)
    refine w_as (w_f (qBl_val (b := false) (qE2_val (x := .str (if b = true then "done" else "refused")) (y := .str (if b = true then "done" else "refused")) (mCall_val (ds := [.obj t, .str lab, .int (z / 64 % 10)]) (qCons_val (qPure_val rfl) (qCons_val (qPure_val rfl) (qCons_val (qPure_val (hv _ _ _)) rfl))) rfl
      (assigns_v (at_ne (at_ne (at_ne h.a (by omega)) (by omega)) (by omega)) (at_ne (at_ne (at_ne h.b (by omega)) (by omega)) (by omega)) (by omega) he hN (by omega) (by omega) hlm (by omega) (by omega) A)) ?_ ?_)) (w_nil ?_))
    · refine e2_val (x := .lst [.str "refused", .str "done"]) (y := .int (if b = true then 1 else 0)) rfl (eL_val (ds := [.bl b]) rfl ?_) ?_
      · cases b <;> rfl
      · cases b <;> kernel_rfl
    · cases b <;> kernel_rfl
    · rfl
end
section
variable {P : List Ob} {x0 x1 : Option D} {t : Nat}
theorem rows_v {n : Nat} (hn : P.length = n) : ∀ (rows L : FL2) (z : Option D), L.length + rows.length < 1000 → ∃ z', mLoop (gSet 4) L_law_0 (rows.map rowD) [x0, x1, some (.obj t), some (.obj n), z, none, none, none, none, none, none] (P ++ [dic L]) = some (.nx [x0, x1, some (.obj t), some (.obj n), z', none, none, none, none, none, none] (P ++ [dic (insAll rows L)]))
  | [], L, z, _ => ⟨z, rfl⟩
  | p :: rows, L, z, hl => by
    obtain ⟨kk, v, cc, gg⟩ := p
    have hlk : (ksL L).length = L.length := by simp [ksL]
    have := len_ins (k := kk) (f := (v, cc, gg)) (L := L)
    simp only [List.length_cons] at hl
    obtain ⟨z', hz⟩ := rows_v hn rows (ins kk (v, cc, gg) L) (some (rowD (kk, (v, cc, gg)))) (by omega)
    refine ⟨z', ?_⟩
    show mLoop _ _ (rowD (kk, (v, cc, gg)) :: rows.map rowD) _ _ = some (.nx _ (P ++ [dic (insAll rows (ins kk (v, cc, gg) L))]))
    unfold mLoop
    rw [show gSet 4 (rowD (kk, (v, cc, gg))) [x0, x1, some (.obj t), some (.obj n), z, none, none, none, none, none, none] = some [x0, x1, some (.obj t), some (.obj n), some (rowD (kk, (v, cc, gg))), none, none, none, none, none, none] from rfl]
    dsimp only
    have at_ : (P ++ [dic L])[n]? = some (dic L) := by rw [← hn]; simp
    have st : L_law_0 [x0, x1, some (.obj t), some (.obj n), some (rowD (kk, (v, cc, gg))), none, none, none, none, none, none] (P ++ [dic L]) = some (.nx [x0, x1, some (.obj t), some (.obj n), some (rowD (kk, (v, cc, gg))), none, none, none, none, none, none] (P ++ [dic (ins kk (v, cc, gg) L)])) := by
      unfold L_law_0
      refine w_putD (k := kk) (t := n) (ob := dic L) (d := fD (some (v, cc, gg))) (S1 := P ++ [dic L]) (by kernel_rfl) (by kernel_rfl) rfl at_ ⟨rfl, by show (ksL L).length < 1000; omega⟩ ?_
      have e : (P ++ [dic L]).set n ⟨.dic, (dic L).c, dputK (dic L).fs kk, dputX kk (fD (some (v, cc, gg))) (dic L).fs (dic L).xs⟩ = P ++ [dic (ins kk (v, cc, gg) L)] := by
        show (P ++ [dic L]).set n (⟨.dic, "", dputK (ksL L) kk, dputX kk (fD (some (v, cc, gg))) (ksL L) (xsL L)⟩ : Ob) = _
        rw [dputK_L kk (v, cc, gg), dputX_L, ← hn]
        simp [dic]
      rw [e]
      rfl
    rw [st]
    dsimp only
    exact hz
end
section
variable {X : D} {t : Nat} {P : List Ob} {rows : FL2} {z1 z2 : Int}
theorem tail_v (a1 : m__law_cell [X, .int 1] = some (.int z1)) (a2 : m__law_cell [X, .int 2] = some (.int z2)) (hP : P.length = t + 2) (h1 : P[t]? = some (th (t + 1) (insAll rows []) false)) (h2 : P[t + 1]? = some (hi [])) (hr : rows.length ≤ 8) :
    ∃ S', (mSeq (mSet 3 (mDct (eC (.dct [] []))))
    (mSeq (mForM (jPure (iSeq isLst (eVar 1))) (gSet 4) L_law_0)
    (mForget [1, 4] (mSeq (mSet 5 (mLst (eL lstD (aCons (eC (.bl false)) aNil))))
    (mSeq (mSet 6 (mLst (eL lstD aNil)))
    (mSeq (mForM (jPure (iSeq isLst (eL (mL 2 m__law_draws) (aCons (eL (mL 2 m__law_cell) (aCons (eVar 0) (aCons (eC (.int 2)) aNil))) (aCons (FL.e2 modD (eL (mL 2 m__law_cell) (aCons (eVar 0) (aCons (eC (.int 1)) aNil))) (eC (.int 31))) aNil))))) (gSet 7) L_law_1)
    (mForget [0, 7, 8, 9, 10] (mSeq (mRet (qLk (eAnd (eL (mL 4 m__law_looks) (aCons (eVar 2) (aCons (eC (.str "a")) (aCons (eVar 3) (aCons (eVar 5) aNil))))) (eL (mL 2 (m__law_is_same 6)) (aCons (eP "Thing" m_Thing_history (eVar 2)) (aCons (eVar 6) aNil))))))
    mNil)))))))) [some X, some (.lst (rows.map rowD)), some (.obj t), none, none, none, none, none, none, none, none] P = some (.rt (.bl true) S') := by
  obtain ⟨m, hm, hm31⟩ : ∃ m : Nat, z1 % 31 = (m : Int) ∧ m < 31 := ⟨(z1 % 31).toNat, by omega, by omega⟩
  obtain ⟨ds, hd, hl, _⟩ := draws_form z2 m (by omega)
  have hd' : m__law_draws [.int z2, .int (m : Int)] = some (.lst (ds.map D.int)) := hd
  have cell : ∀ (ρ : FL.Env) (c : D) (z : Int), ρ[0]? = some (some X) → m__law_cell [X, c] = some (.int z) → eL (mL 2 m__law_cell) (aCons (eVar 0) (aCons (eC c) aNil)) ρ = some (.int z) := fun ρ c z h1 h2 => eL_val (ds := [X, c]) (aCons_val (var_v h1) rfl) (mL_val rfl h2)
  obtain ⟨zr, hlr⟩ := rows_v (P := P) (x0 := some X) (x1 := some (.lst (rows.map rowD))) (t := t) hP rows [] none (by simp; omega)
  have hN0 : (ksL (insAll rows [])).Nodup := insAll_nodup (by show ([] : List Str).Nodup; exact .nil)
  have hL0 : (insAll rows []).length ≤ 8 := by have := insAll_len (rows := rows) (L := []); simp at this; omega
  have st0 : St t (((P ++ [dic (insAll rows [])]) ++ [hi [.bl false]]) ++ [hi []]) (insAll rows []) false [] := by
    refine ⟨?_, ?_, ?_, ?_, ?_⟩
    · rw [List.getElem?_append_left (by simp; omega), List.getElem?_append_left (by simp; omega), List.getElem?_append_left (by omega)]; exact h1
    · rw [List.getElem?_append_left (by simp; omega), List.getElem?_append_left (by simp; omega), List.getElem?_append_left (by omega)]; exact h2
    · rw [List.getElem?_append_left (by simp; omega), List.getElem?_append_left (by simp; omega), ← hP]; simp
    · rw [List.getElem?_append_left (by simp; omega), show t + 3 = (P ++ [dic (insAll rows [])]).length by simp; omega]; simp
    · rw [show t + 4 = ((P ++ [dic (insAll rows [])]) ++ [hi [.bl false]]).length by simp; omega]; simp
  obtain ⟨ρ', S', hloop, L, sh, hs, z7, z8, z9, z10, rfl, hSt, hN, hLl, hT, hhl⟩ := mloop_nx (g := gSet 7) (G := L_law_1) (I := fun i ρ S => ∃ (L : FL2) (sh : Bool) (hs : List D) (z7 z8 z9 z10 : Option D), ρ = env13 (some X) t z7 z8 z9 z10 ∧ St t S L sh hs ∧ (ksL L).Nodup ∧ L.length ≤ 8 + i ∧ Told hs ∧ hs.length = i) (ds.map D.int) 0 (env13 (some X) t none none none none) (((P ++ [dic (insAll rows [])]) ++ [hi [.bl false]]) ++ [hi []]) (fun i ρ S d h hd => by
      obtain ⟨L, sh, hs, z7, z8, z9, z10, rfl, hSt, hN, hLl, hT, hhl⟩ := h
      have hil : i < ds.length := by
        have := (List.getElem?_eq_some_iff.mp hd).1
        simpa using this
      rw [List.getElem?_map, List.getElem?_eq_getElem hil] at hd
      cases hd
      rw [Nat.zero_add] at hLl hhl
      obtain ⟨S2, L2, sh2, hs2, z9', z10', z8', e, g1, g2, g3, g4, g5⟩ := step_v (x0 := some X) (z := ds[i]) (z8 := z8) (z9 := z9) (z10 := z10) hSt hN (by omega) hT (by omega)
      exact ⟨_, _, S2, rfl, e, L2, sh2, hs2, _, _, _, _, rfl, g1, g2, by omega, g4, by omega⟩)
    ⟨insAll rows [], false, [], none, none, none, none, rfl, st0, hN0, by omega, fun _ h => (nomatch h), rfl⟩
  rw [Nat.zero_add, List.length_map] at hLl hhl
  refine ⟨S', ?_⟩
  refine w_oset (d := .obj P.length) (S1 := P ++ [dic []]) rfl ?_
  rw [hP]
  refine w_for (ds := rows.map rowD) (S1 := P ++ [dic []]) rfl hlr (w_fg ?_)
  refine w_oset (d := .obj (P ++ [dic (insAll rows [])]).length) (S1 := (P ++ [dic (insAll rows [])]) ++ [hi [.bl false]]) rfl ?_
  refine w_oset (d := .obj ((P ++ [dic (insAll rows [])]) ++ [hi [.bl false]]).length) (S1 := ((P ++ [dic (insAll rows [])]) ++ [hi [.bl false]]) ++ [hi []]) rfl ?_
  have el1 : (P ++ [dic (insAll rows [])]).length = t + 3 := by simp; omega
  have el2 : ((P ++ [dic (insAll rows [])]) ++ [hi [.bl false]]).length = t + 4 := by simp; omega
  rw [el1, el2]
  show mSeq (mForM _ _ _) _ (env13 (some X) t none none none none) _ = _
  refine w_for (ds := ds.map D.int) (S1 := ((P ++ [dic (insAll rows [])]) ++ [hi [.bl false]]) ++ [hi []]) (jPure_val ?_) hloop (w_fg ?_)
  · have e : eL (mL 2 m__law_draws) (aCons (eL (mL 2 m__law_cell) (aCons (eVar 0) (aCons (eC (.int 2)) aNil))) (aCons (FL.e2 modD (eL (mL 2 m__law_cell) (aCons (eVar 0) (aCons (eC (.int 1)) aNil))) (eC (.int 31))) aNil)) (env13 (some X) t none none none none) = some (.lst (ds.map D.int)) := by
      refine eL_val (ds := [.int z2, .int (m : Int)]) (aCons_val (cell _ _ _ rfl a2) (aCons_val ?_ rfl)) (mL_val rfl hd')
      rw [← hm]
      exact mod_v 31 (by decide) (cell _ _ _ rfl a1)
    unfold iSeq
    rw [e]
    rfl
  show mSeq (mRet _) _ (env13 none t none none none none) S' = _
  have e1 : shE S' (some (.obj t)) = some (thD hs L sh) := shd_thing hSt.a hSt.b hT.ev
  have e6 : shE S' (some (.obj (t + 4))) = some (.lst hs) := by
    show some (shd S' 6 (.obj (t + 4))) = _
    unfold shd
    rw [hSt.e]
    show some (D.lst (hs.map _)) = _
    rw [map_shd hT.ev]
  refine w_ret (qLk_val (d := .bl true) ?_ rfl)
  unfold eAnd
  rw [shLooks (x0 := none) (z7 := none) (z8 := none) (z9 := none) (z10 := none) (lab := "a") (F := eC (.str "a")) hSt hT.ev (by omega) rfl]
  show eL (mL 2 (m__law_is_same 6)) _ _ = _
  refine eL_val (ds := [.lst hs, .lst hs]) (aCons_val ?_ (aCons_val (var_v (k := 6) (congrArg some e6)) rfl)) (mL_val rfl (hT.same (by omega)))
  show eP "Thing" m_Thing_history (eVar 2) [_, _, shE S' (some (.obj t)), _, _, _, _, _, _, _, _] = _
  rw [e1]
  show (if ("Thing" : Str) = "Thing" then m_Thing_history [thD hs L sh] else none) = _
  rw [if_pos rfl]
  exact history_v L sh (by omega)
end
theorem law_true (ns : List Int) (_ : ns.length ≤ 63) : ∃ S', m_law [.klst (ns.map D.int)] [] = some (.bl true, S') := by
  have a0 : m__law_cell [scr ns, .int 0] = some (.int (ns.getD 0 0)) := cell_eq ns 0
  have a1 : m__law_cell [scr ns, .int 1] = some (.int (ns.getD 1 0)) := cell_eq ns 1
  have a2 : m__law_cell [scr ns, .int 2] = some (.int (ns.getD 2 0)) := cell_eq ns 2
  show ∃ S', m_law [scr ns] [] = _
  generalize scr ns = X at a0 a1 a2 ⊢
  generalize ns.getD 0 0 = z0 at a0
  generalize ns.getD 1 0 = z1 at a1
  generalize ns.getD 2 0 = z2 at a2
  have cell : ∀ (ρ : FL.Env) (c : D) (z : Int), ρ[0]? = some (some X) → m__law_cell [X, c] = some (.int z) → eL (mL 2 m__law_cell) (aCons (eVar 0) (aCons (eC c) aNil)) ρ = some (.int z) := fun ρ c z h1 h2 => eL_val (ds := [X, c]) (aCons_val (var_v h1) rfl) (mL_val rfl h2)
  have q : ∀ o, G_law [some X, none, none, none, none, none, none, none, none, none, none] [] = some o → runM 11 1 G_law [X] [] = (match o with | .rt d S => some (d, S) | .nx _ S => some (.non, S)) := fun o e => by
    unfold runM
    rw [show envOf 11 1 [X] = ([some X, none, none, none, none, none, none, none, none, none, none] : FL.Env) from rfl, e]
    cases o <;> rfl
  have fin : (∃ S', G_law [some X, none, none, none, none, none, none, none, none, none, none] [] = some (.rt (.bl true) S')) → ∃ S', m_law [X] [] = some (.bl true, S') := fun ⟨S', e⟩ => ⟨S', q _ e⟩
  refine fin ?_
  unfold G_law
  have new0 : mNewM "Thing" 1 m_Thing___init__ [(.tup [])] qNil [some X, some (.lst []), none, none, none, none, none, none, none, none, none] [] = some (.obj 0, [th 1 [] false, hi []]) := mNewM_val (ds := []) (S1 := []) rfl rfl (new_thing0 (S := []))
  by_cases hz : z0 % 2 = 1
  · obtain ⟨d9, hd9, hl9, _⟩ := draws_form (z0 / 2) 9 (by omega)
    have hd9' : m__law_draws [.int (z0 / 2), .int 9] = some (.lst (d9.map D.int)) := hd9
    obtain ⟨rows, hrows, hr8, hrl⟩ := starts_form d9 hl9
    obtain ⟨S', hS⟩ := tail_v (X := X) (t := 2) (P := [th 1 [] false, hi [], th 3 (insAll rows []) false, hi []]) (rows := rows) a1 a2 rfl rfl rfl hr8
    refine ⟨S', ?_⟩
    refine w_set (d := .lst []) rfl (w_oset (d := .obj 0) (S1 := [th 1 [] false, hi []]) new0 ?_)
    refine w_if (b := z0 % 2 == 1) (qTp_val (teq_v (mod_v 2 (by decide) (cell _ _ _ rfl a0)) rfl)) (fun _ => ?_) (fun hb => absurd hz (by simpa using hb))
    refine w_as (w_set (d := .lst (rows.map rowD)) (eL_val (ds := [.lst (d9.map D.int)]) (aCons_val (eL_val (ds := [.int (z0 / 2), .int 9]) (aCons_val (fdiv_v 2 (by decide) (cell _ _ _ rfl a0)) rfl) (mL_val rfl hd9')) rfl) (mL_val rfl hrows)) ?_)
    refine w_as (w_oset (d := .obj 2) (S1 := [th 1 [] false, hi [], th 3 (insAll rows []) false, hi []]) ?_ (w_nil ?_))
    · exact mNewM_val (ds := [.lst (rows.map rowD)]) (S1 := [th 1 [] false, hi []]) rfl rfl (new_thingP (S := [th 1 [] false, hi []]) (rows := rows) (by omega))
    · exact hS
  · obtain ⟨S', hS⟩ := tail_v (X := X) (t := 0) (P := [th 1 [] false, hi []]) (rows := []) a1 a2 rfl rfl rfl (by decide)
    refine ⟨S', ?_⟩
    refine w_set (d := .lst []) rfl (w_oset (d := .obj 0) (S1 := [th 1 [] false, hi []]) new0 ?_)
    refine w_if (b := z0 % 2 == 1) (qTp_val (teq_v (mod_v 2 (by decide) (cell _ _ _ rfl a0)) rfl)) (fun hb => absurd (by simpa using hb) hz) (fun _ => ?_)
    exact w_nil hS
end LW
namespace LW
open PySem PySem.Spec PyProof.Rows L2 FL
variable [HW]
def fn : List He.DefD := [⟨("_reading", none), "_reading", "_reading", defArgs s__reading, defBody s__reading, defScope s__reading, [], []⟩, ⟨("_can_replace", none), "_can_replace", "_can_replace", defArgs s__can_replace, defBody s__can_replace, defScope s__can_replace, [], []⟩, ⟨("_is_done", none), "_is_done", "_is_done", defArgs s__is_done, defBody s__is_done, defScope s__is_done, [], []⟩, ⟨("_field_after", none), "_field_after", "_field_after", defArgs s__field_after, defBody s__field_after, defScope s__field_after, [], []⟩, ⟨("act", none), "act", "act", defArgs s_act, defBody s_act, defScope s_act, [], []⟩, ⟨("Recorded", some "__init__"), "__init__", "Recorded.__init__", defArgs s_Recorded___init__, defBody s_Recorded___init__, defScope s_Recorded___init__, [], []⟩, ⟨("_with_field", none), "_with_field", "_with_field", defArgs s__with_field, defBody s__with_field, defScope s__with_field, [], []⟩, ⟨("Thing", some "__init__"), "__init__", "Thing.__init__", defArgs s_Thing___init__, defBody s_Thing___init__, defScope s_Thing___init__, [.adr (He.dflAt ("Thing", some "__init__") 0)], []⟩, ⟨("Thing", some "_done"), "_done", "Thing._done", defArgs s_Thing__done, defBody s_Thing__done, defScope s_Thing__done, [], []⟩, ⟨("Thing", some "_keep"), "_keep", "Recorded._keep", defArgs s_Thing__keep, defBody s_Thing__keep, defScope s_Thing__keep, [], []⟩, ⟨("Thing", some "ask"), "ask", "Thing.ask", defArgs s_Thing_ask, defBody s_Thing_ask, defScope s_Thing_ask, [], []⟩, ⟨("Thing", some "__getitem__"), "__getitem__", "Thing.__getitem__", defArgs s_Thing___getitem__, defBody s_Thing___getitem__, defScope s_Thing___getitem__, [], []⟩, ⟨("Thing", some "__setitem__"), "__setitem__", "Thing.__setitem__", defArgs s_Thing___setitem__, defBody s_Thing___setitem__, defScope s_Thing___setitem__, [], []⟩, ⟨("Thing", some "__contains__"), "__contains__", "Thing.__contains__", defArgs s_Thing___contains__, defBody s_Thing___contains__, defScope s_Thing___contains__, [], []⟩, ⟨("Thing", some "__iter__"), "__iter__", "Thing.__iter__", defArgs s_Thing___iter__, defBody s_Thing___iter__, defScope s_Thing___iter__, [], []⟩, ⟨("Thing", some "__bool__"), "__bool__", "Thing.__bool__", defArgs s_Thing___bool__, defBody s_Thing___bool__, defScope s_Thing___bool__, [], []⟩, ⟨("_law_cell", none), "_law_cell", "_law_cell", defArgs s__law_cell, defBody s__law_cell, defScope s__law_cell, [], []⟩, ⟨("_law_draws", none), "_law_draws", "_law_draws", defArgs s__law_draws, defBody s__law_draws, defScope s__law_draws, [], []⟩, ⟨("_law_defines", none), "_law_defines", "_law_defines", defArgs s__law_defines, defBody s__law_defines, defScope s__law_defines, [], []⟩, ⟨("_law_act", none), "_law_act", "_law_act", defArgs s__law_act, defBody s__law_act, defScope s__law_act, [], []⟩, ⟨("_law_spot", none), "_law_spot", "_law_spot", defArgs s__law_spot, defBody s__law_spot, defScope s__law_spot, [], []⟩, ⟨("_law_is_same", none), "_law_is_same", "_law_is_same", defArgs s__law_is_same, defBody s__law_is_same, defScope s__law_is_same, [], []⟩, ⟨("_law_does", none), "_law_does", "_law_does", defArgs s__law_does, defBody s__law_does, defScope s__law_does, [], []⟩, ⟨("_law_starts", none), "_law_starts", "_law_starts", defArgs s__law_starts, defBody s__law_starts, defScope s__law_starts, [], []⟩, ⟨("_law_is_refusal", none), "_law_is_refusal", "_law_is_refusal", defArgs s__law_is_refusal, defBody s__law_is_refusal, defScope s__law_is_refusal, [], []⟩, ⟨("_law_assigns", none), "_law_assigns", "_law_assigns", defArgs s__law_assigns, defBody s__law_assigns, defScope s__law_assigns, [], []⟩, ⟨("_law_looks", none), "_law_looks", "_law_looks", defArgs s__law_looks, defBody s__law_looks, defScope s__law_looks, [], []⟩, ⟨("law", none), "law", "law", defArgs s_law, defBody s_law, defScope s_law, [], []⟩]
def prs : List PrD := [("Thing", "is_shut", ⟨("Thing", some "is_shut"), "is_shut", "Thing.is_shut", defArgs s_Thing_is_shut, defBody s_Thing_is_shut, defScope s_Thing_is_shut, [], []⟩), ("Thing", "history", ⟨("Thing", some "history"), "history", "Recorded.history", defArgs s_Thing_history, defBody s_Thing_history, defScope s_Thing_history, [], []⟩)]
def tbs : List He.Tab := []
def xd_Refused : XiD := ⟨"Refused", "deed", "deed", "refused: ", "Refused.__init__", defArgs (clsM (top 4) 0), defBody (clsM (top 4) 0), defScope (clsM (top 4) 0)⟩
theorem xok_Refused : xd_Refused.ok := ⟨_, _, _, _, _, _, _, _, _, _, _, _, _, _, _, _, rfl, rfl, rfl, fun _ _ _ _ _ _ _ _ _ => rfl, fun _ => ⟨_, rfl⟩, fun _ => rfl⟩
theorem xn_Refused : XiN xd_Refused := ⟨rfl, rfl, rfl, by decide +kernel, by decide +kernel, by decide +kernel⟩
def xs : List XiD := [xd_Refused]
def as_ : List Addr := [2, 3, 6, 4, 21, 31, 53, 74, 95, 116, 137, 158, 167, 174, 181, 188, 195, 212, 248, 257, 340, 349, 356, 363, 370, 377, 384, 391, 398, 405, 412, 417, 424, 0, 20, 30, 52, 73, 94, 115, 136, 157, 166, 173, 180, 187, 194, 211, 247, 256, 339, 348, 355, 362, 369, 376, 383, 390, 397, 404, 411, 416, 423, 15, 16, 17, 18, 19, 29, 32, 50, 51, 71, 72, 92, 93, 113, 114, 134, 135, 155, 156, 161, 162, 163, 164, 165, 168, 169, 170, 171, 172, 175, 176, 177, 178, 179, 182, 183, 184, 185, 186, 189, 190, 191, 192, 193, 209, 210, 213, 214, 230, 238, 245, 246, 249, 250, 253, 254, 255, 271, 278, 285, 292, 299, 306, 313, 320, 337, 338, 343, 344, 345, 346, 347, 350, 351, 352, 353, 354, 357, 358, 359, 360, 361, 364, 365, 366, 367, 368, 371, 372, 373, 374, 375, 378, 379, 380, 381, 382, 385, 386, 387, 388, 389, 392, 393, 394, 395, 396, 399, 400, 401, 402, 403, 406, 407, 408, 409, 410, 413, 414, 415, 418, 419, 420, 421, 422, 49, 38, 70, 59, 91, 80, 112, 101, 133, 122, 154, 143, 208, 229, 237, 244, 270, 266, 277, 284, 291, 298, 305, 312, 319, 327, 336, 44, 45, 46, 47, 48, 65, 66, 67, 68, 69, 86, 87, 88, 89, 90, 107, 108, 109, 110, 111, 128, 129, 130, 131, 132, 149, 150, 151, 152, 153, 203, 204, 205, 206, 207, 224, 225, 226, 227, 228, 236, 239, 240, 241, 242, 243, 267, 268, 269, 265, 272, 273, 274, 275, 276, 279, 280, 281, 282, 283, 286, 287, 288, 289, 290, 293, 294, 295, 296, 297, 300, 301, 302, 303, 304, 307, 308, 309, 310, 311, 314, 315, 316, 317, 318, 326, 335, 231, 232, 233, 234, 235, 321, 322, 323, 324, 325, 330, 331, 332, 333, 334]
def fa : List He.Fa := [.cls "Recorded", .glo "Recorded", .cls "Thing", .glo "Thing", .mkr "Thing", .noat "Thing" "_fields", .noat "Thing" "_history", .noat "Thing" "_shut", .glo "_reading", .glo "_can_replace", .glo "_is_done", .glo "_field_after", .glo "act", .glo "_with_field", .meth "Thing" "_done", .meth "Thing" "_keep", .meth "Thing" "ask", .meth "Thing" "__getitem__", .meth "Thing" "__setitem__", .meth "Thing" "__contains__", .meth "Thing" "__iter__", .meth "Thing" "__bool__", .glo "_law_cell", .glo "_law_draws", .glo "_law_defines", .glo "_law_act", .glo "_law_spot", .glo "_law_is_same", .glo "_law_does", .glo "_law_starts", .glo "_law_is_refusal", .glo "_law_assigns", .glo "_law_looks", .glo "law", .free "ValueError", .free "bool", .free "int", .free "isinstance", .free "iter", .free "len", .free "list", .free "range", .free "str", .free "super", .free "tuple", .glo "Refused", .glo "Lie", .glo "BadCheck", .glo "BadAnswer", .glo "Promise", .glo "Unfair", .glo "StandInError", .exm "Refused" "StandInError" true]
def ex (K : PySem.W.Frag) : Bool := cfnB K "Recorded" "__init__" && propB K "Thing" "is_shut" && propB K "Thing" "history" && PySem.W.noSeq K (He.ga K "Thing") && dfB K "Thing" 0 (.tup []) && oneB K xd_Refused "/claim/cut.py" && excB K (He.ga K "Refused") && kitB K "Refused" "Refused" true && kitTB K "Refused" "ValueError" true && kitB K "Refused" "Lie" false && kitB K "Refused" "BadCheck" false && kitB K "Refused" "BadAnswer" false && kitB K "Refused" "Promise" false && kitB K "Refused" "Unfair" false
abbrev R : PySem.W.OpenRow := PySem.W.OpenLaw.row PySem.Challenge.rw_lyingstandins_k13_thing_operators
abbrev hk : PySem.W.Hook := hookX as_ fa fn ex tbs prs xs
def ob (s : PySem.W.SharedT) : AlX := obsX as_ fa fn ex tbs prs xs (HandSHeadRun.getT s)
theorem ob_eq (s : PySem.W.SharedT) : ob s = hk.obs s.abs := obsX_eq (HandSHeadRun.getT_eq s)
def loose : List PySem.Str := (["BadAnswer", "BadCheck", "Deeds", "Lie", "Promise", "Recorded", "Refused", "StandInError", "Thing", "Unfair", "_can_replace", "_field_after", "_is_done", "_law_act", "_law_assigns", "_law_cell", "_law_defines", "_law_does", "_law_draws", "_law_is_refusal", "_law_is_same", "_law_looks", "_law_spot", "_law_starts", "_reading", "_wall", "_with_field", "act"] : List PySem.Str)
section
open PySem.W HandSHeadRun
noncomputable abbrev ef (w : World) (os : OsState) := endF (stepQ (denQ tabQ) R.prog w) 6000 R.prog w os
theorem r0a (w : World) (os : OsState) : (ef (w.withFollow "special-get-raises" false) os).map (fun s => looksF R.prog (boot_heap (World.params (w.withFollow "special-get-raises" false))) s.abs) = some true := by kernel_rfl
theorem r0b (w : World) (os : OsState) : (ef (w.withFollow "special-get-raises" false) os).map (fun s => seenQ (PySem.W.view R.prog [32]) loose (importedModules R.prog.main.body) (fun s => xlAt (PySem.W.view R.prog [32]) [] s && recOk R.toRowW.records s) s.abs) = some (openGood (PySem.W.view R.prog [32]) loose) := by kernel_rfl
theorem r0c (w : World) (os : OsState) : (ef (w.withFollow "special-get-raises" false) os).map ob = some (hk.val (w.withFollow "special-get-raises" false)) := by kernel_rfl
theorem run0 (w : World) : HandSHeadRun.RunEq R (PySem.W.view R.prog [32]) hk ob 6000 loose (w.withFollow "special-get-raises" false) := fun os => map3 (r0a w os) (r0b w os) (r0c w os)
theorem r1a (w : World) (os : OsState) : (ef (w.withFollow "special-get-raises" true) os).map (fun s => looksF R.prog (boot_heap (World.params (w.withFollow "special-get-raises" true))) s.abs) = some true := by kernel_rfl
theorem r1b (w : World) (os : OsState) : (ef (w.withFollow "special-get-raises" true) os).map (fun s => seenQ (PySem.W.view R.prog [32]) loose (importedModules R.prog.main.body) (fun s => xlAt (PySem.W.view R.prog [32]) [] s && recOk R.toRowW.records s) s.abs) = some (openGood (PySem.W.view R.prog [32]) loose) := by kernel_rfl
theorem r1c (w : World) (os : OsState) : (ef (w.withFollow "special-get-raises" true) os).map ob = some (hk.val (w.withFollow "special-get-raises" true)) := by kernel_rfl
theorem run1 (w : World) : HandSHeadRun.RunEq R (PySem.W.view R.prog [32]) hk ob 6000 loose (w.withFollow "special-get-raises" true) := fun os => map3 (r1a w os) (r1b w os) (r1c w os)
end
theorem run (w : World) : HandSHeadRun.RunEq R (PySem.W.view R.prog [32]) hk ob 6000 loose w :=
  PySem.W.byRow2 "special-get-raises" (P := fun w => HandSHeadRun.RunEq R (PySem.W.view R.prog [32]) hk ob 6000 loose w) run0 run1 w
theorem tx {P : Program} {w : World} [WW w] {K : PySem.W.Frag} {h : Heap} {mg : Str → Option Value} (X : K.In h) (G : h.Ns mainGlobals mg) (hP : PFile P "/claim/cut.py") (cX : SaysX fa fn ex tbs prs xs w K) : TX P w K mg := by
  have cc := cX.1
  obtain ⟨c, cx⟩ := cc.1.1
  have cx' := cx
  simp only [ex, Bool.and_eq_true] at cx'
  exact ⟨He.cls_ok (c.fact 0 rfl), He.glo_ok X G (c.fact 1 rfl), He.cls_ok (c.fact 2 rfl), He.glo_ok X G (c.fact 3 rfl), He.mkr_ok (c.fact 4 rfl), He.noat_ok (c.fact 5 rfl), He.noat_ok (c.fact 6 rfl), He.noat_ok (c.fact 7 rfl), defAt_of c 0 rfl, He.glo_ok X G (c.fact 8 rfl), defAt_of c 1 rfl, He.glo_ok X G (c.fact 9 rfl), defAt_of c 2 rfl, He.glo_ok X G (c.fact 10 rfl), defAt_of c 3 rfl, He.glo_ok X G (c.fact 11 rfl), defAt_of c 4 rfl, He.glo_ok X G (c.fact 12 rfl), c.def_ 5 rfl, defAt_of c 6 rfl, He.glo_ok X G (c.fact 13 rfl), c.def_ 7 rfl, c.def_ 8 rfl, He.meth_ok (c.fact 14 rfl), c.def_ 9 rfl, He.meth_ok (c.fact 15 rfl), c.def_ 10 rfl, He.meth_ok (c.fact 16 rfl), c.def_ 11 rfl, He.meth_ok (c.fact 17 rfl), c.def_ 12 rfl, He.meth_ok (c.fact 18 rfl), c.def_ 13 rfl, He.meth_ok (c.fact 19 rfl), c.def_ 14 rfl, He.meth_ok (c.fact 20 rfl), c.def_ 15 rfl, He.meth_ok (c.fact 21 rfl), getter_of cc 0 rfl, getter_of cc 1 rfl, defAt_of c 16 rfl, He.glo_ok X G (c.fact 22 rfl), defAt_of c 17 rfl, He.glo_ok X G (c.fact 23 rfl), defAt_of c 18 rfl, He.glo_ok X G (c.fact 24 rfl), defAt_of c 19 rfl, He.glo_ok X G (c.fact 25 rfl), defAt_of c 20 rfl, He.glo_ok X G (c.fact 26 rfl), defAt_of c 21 rfl, He.glo_ok X G (c.fact 27 rfl), defAt_of c 22 rfl, He.glo_ok X G (c.fact 28 rfl), defAt_of c 23 rfl, He.glo_ok X G (c.fact 29 rfl), defAt_of c 24 rfl, He.glo_ok X G (c.fact 30 rfl), defAt_of c 25 rfl, He.glo_ok X G (c.fact 31 rfl), defAt_of c 26 rfl, He.glo_ok X G (c.fact 32 rfl), defAt_of c 27 rfl, He.glo_ok X G (c.fact 33 rfl), He.free_ok X G (c.fact 34 rfl), He.free_ok X G (c.fact 35 rfl), He.free_ok X G (c.fact 36 rfl), He.free_ok X G (c.fact 37 rfl), He.free_ok X G (c.fact 38 rfl), He.free_ok X G (c.fact 39 rfl), He.free_ok X G (c.fact 40 rfl), He.free_ok X G (c.fact 41 rfl), He.free_ok X G (c.fact 42 rfl), He.free_ok X G (c.fact 43 rfl), He.free_ok X G (c.fact 44 rfl), cx'.1.1.1.1.1.1.1.1.1.1.1.1.1, cx'.1.1.1.1.1.1.1.1.1.1.1.1.2, cx'.1.1.1.1.1.1.1.1.1.1.1.2, cx'.1.1.1.1.1.1.1.1.1.1.2, df_ok cx'.1.1.1.1.1.1.1.1.1.2, He.glo_ok X G (c.fact 45 rfl), He.glo_ok X G (c.fact 46 rfl), He.glo_ok X G (c.fact 47 rfl), He.glo_ok X G (c.fact 48 rfl), He.glo_ok X G (c.fact 49 rfl), He.glo_ok X G (c.fact 50 rfl), He.glo_ok X G (c.fact 51 rfl), one_ok cx'.1.1.1.1.1.1.1.1.2 (saysX_at cX 0) xok_Refused xn_Refused hP, excB_ok cx'.1.1.1.1.1.1.1.2, kitB_ok cx'.1.1.1.1.1.1.2, kitTB_ok cx'.1.1.1.1.1.2, kitB_ok cx'.1.1.1.1.2, kitB_ok cx'.1.1.1.2, kitB_ok cx'.1.1.2, kitB_ok cx'.1.2, kitB_ok cx'.2, He.exm_ok (c.fact 52 rfl)⟩
theorem facts {P : Program} {w : World} [WW w] {K : PySem.W.Frag} {h : Heap} {mg : Str → Option Value} {f : Addr} (X : K.In h) (G : h.Ns mainGlobals mg) (hfa : mg ("law" : Str) = some (.ref f)) (hP : PFile P "/claim/cut.py") (c : SaysX fa fn ex tbs prs xs w K) :
    ∃ fd : FuncData, (∀ (s : Shared) (v : Value), BindsTo s fd ⟨[v], []⟩ [("_law_script", v)]) ∧ ∀ base : Heap, K.In base → base.Ns mainGlobals mg → FnOk P w K mg base CX0 10 f fd ["_law_script"] (spE K 1 m_law) := by
  have T : TX P w K mg := tx X G hP c
  have e := hfa.symm.trans T.g_law
  cases e
  obtain ⟨fd, F⟩ := T.d_law
  have b := FunD.bindsA (ps := ["_law_script"]) F fun _ _ _ _ _ _ us hl => match us, hl with | [_], _ => rfl
  exact ⟨fd, fun s v => b s [v] rfl, fun base _ _ => ok_law T F⟩
end LW
open PySem PySem.W PySem.Calls PyProof.Rows
set_option maxHeartbeats 0 in
theorem PySem.Challenge.cw_lyingstandins_k13_thing_operators_holds : PySem.Challenge.rw_lyingstandins_k13_thing_operators.Holds := by
  w_on; o_law
  refine HandSHeadRun.head_any (r := OpenLaw.row PySem.Challenge.rw_lyingstandins_k13_thing_operators) (q := view (OpenLaw.row PySem.Challenge.rw_lyingstandins_k13_thing_operators).prog [32]) (H := LW.hk) (ob := LW.ob) (M := 6000) (loose := LW.loose) (d := HandSHeadRun.topDef (OpenLaw.row PySem.Challenge.rw_lyingstandins_k13_thing_operators).prog 32) (kwd := []) LW.ob_eq
    (by kernel_rfl) (fun s => by kernel_rfl) LW.run (by kernel_rfl) (by kernel_rfl) (by kernel_rfl) (by rfl) (by first | assumption | decide +kernel) (by decide +kernel) ⟨rfl, rfl, rfl, rfl, rfl, by decide +kernel⟩ ?hw ?hc
  case hw => w_witness2
  case hc =>
    refine L2.walk_ofE (l := PySem.Challenge.rw_lyingstandins_k13_thing_operators) (n := 63) (k := 10) (x := "_law_script") (CX := L2.CX0) rfl (by decide) (by kernel_rfl) ⟨rfl, by decide, by decide⟩ ?F (fun _ _ _ _ z => z)
    intro w mg fa h Y G hmg0
    letI : FL.HW := ⟨fun x => PySem.hashStr w x⟩
    haveI : FL.WW w := ⟨fun _ => rfl⟩
    obtain ⟨K, KX, c⟩ := Y
    have hmg : mg ("law" : PySem.Str) = some (.ref fa) := by
      have e : (HandSHeadRun.topDef (OpenLaw.row PySem.Challenge.rw_lyingstandins_k13_thing_operators).prog 32).name = ("law" : PySem.Str) := by kernel_rfl
      rw [← e]
      exact hmg0
    obtain ⟨fd, hb, hF⟩ := LW.facts (P := (PySem.Challenge.rw_lyingstandins_k13_thing_operators).prog) (w := w) KX G hmg ⟨by decide +kernel, by decide +kernel⟩ c
    exact ⟨K, fd, FL.spE K 1 LW.m_law, KX, hb, FL.law_spE LW.law_true, hF⟩
