import PyProof.Rows.All
import Wide.All
import OpenK.AllK
import Wide.FinOn
import HandS.ForMost
import HandS.ForExc
import HandS.TupAny
import KE.KIndexOf
import HandS.IsInst
import HandS.Conv
import HandS.Zip
import HandS.Wide
import HandS.Deep
import HandS.Style
import KE.GoesMore
import HandS.SortOrd
import HandS.SortRule
import HandS.SortInts
import HandS.Set
import HandS.SetFor
import HandS.Strs
import KE.GoesZip
import KE.KDictZip
import HandS.TupSets
import HandS.Star
import HandS.DictComp
import HandS.WordsDict
import KE.KRevSl
import PyProof.NeKinds
import HandS.TupMul
import HandS.More
import HandS.Exc
import HandS.ExcOwn
import HandS.ExcIs
import HandS.Flow
import HandS.Small
import HandS.Codes
import HandS.Ends
import PySem.Challenge.RW_pilepass_k08_rows_of_blocks
set_option Elab.async false
set_option linter.all false
set_option maxRecDepth 100000
set_option maxHeartbeats 4000000
namespace PP
open PySem PySem.Spec PyProof.Rows L2
/-! ### tuples that are known to have no dict: frozen as they are made -/
def tObj (its : List Value) (n : Nat) : Obj := { cls := .type "tuple", data := .seq its.toArray n }
def FrT (H : Hp) (a : Addr) (xs : List V) : Prop := ∃ o : Obj, H a = some (.frz o (.tup xs)) ∧ o.cls = .type "tuple" ∧ o.dict = none
theorem FrT.sq {K : PySem.W.Frag} {H : Hp} {a : Addr} {xs : List V} (h : FrT H a xs) : SqT K H a xs := by
  obtain ⟨o, h, _⟩ := h
  exact .inl (.inr ⟨o, h⟩)
theorem FrT.new {H : Hp} {p : Addr} {o : Obj} {xs : List V} (hc : o.cls = Value.type "tuple") (hd : o.dict = none) : FrT (upd H p (.frz o (.tup xs))) p xs := ⟨o, upd_same, hc, hd⟩
/-- what a new tuple says -/
def NewT (H : Hp) (xs : List V) (Q : VK) : Prop := ∀ p o, H p = none → o.cls = Value.type "tuple" → o.dict = none → Q (.ref p) (upd H p (.frz o (.tup xs)))
section
variable {X : Cx} {es : List Expr} {pos : Pos} {t : TA}
theorem new_tup {pins : List (Addr × Obj)} {σ : L2.St} {H : Hp} {s : Shared} {o : Obj} {its : List Value} {xs : List V} {Q : VK} (I : Inv X pins σ H s) (hc : o.cls = Value.type "tuple") (hd : o.dict = none) (hfr : o.isFreed = false) (hs : ∃ n, o.data = .seq its.toArray n) (hz : xs.length ≤ sizeLine) (r : Vals xs its) (q : NewT H xs Q) :
    EP X pins σ Q (.ref s.heap.objs.size) { s with heap := s.heap.push o } := by
  refine ⟨.ref s.heap.objs.size, _, I.laid (t' := s.toks) (o := .frz o (.tup xs)) (fun b u e => Heap.get?_push_of_some _ e) (Nat.le_refl _) ?_, rfl, q _ _ (I.hok.fresh (Nat.le_refl _)) hc hd⟩
  obtain ⟨n, hs⟩ := hs
  exact ⟨Heap.get?_push_size _ hfr, hz, its, r, ⟨o, Heap.get?_push_size _ hfr, hc, n, hs⟩⟩
def tTupP (t : TA) : TE := fun σ H Q => t σ H fun xs H1 => xs.length ≤ sizeLine ∧ NewT H1 xs Q
theorem pe_tupP {x1} (h : PA X es t) : PE X (.Tuple es x1 pos) (tTupP t) := by
  refine ⟨fun pins s σ H Q I hq => ?_⟩
  refine wpAny_Tuple_spliced (thn (h.run pos pins s σ H _ I hq) fun us s1 ⟨xs, H1, I1, r, z, q⟩ => ⟨by rw [← r.length]; exact z, ?_⟩)
  exact new_tup I1 rfl rfl rfl ⟨_, rfl⟩ z r q
/-- t + u -/
def rCatP (K : PySem.W.Frag) : R2 := fun x y H Q => ∃ a b xs ys, x = .ref a ∧ y = .ref b ∧ SqT K H a xs ∧ SqT K H b ys ∧ xs.length + ys.length ≤ sizeLine ∧
  (xs = [] → Q (.ref b) H) ∧ (xs ≠ [] → ys = [] → Q (.ref a) H) ∧ (xs ≠ [] → ys ≠ [] → NewT H (xs ++ ys) Q)
theorem op_catP : OpR X (binaryOp .Add) (rCatP X.K) := by
  intro pins s σ H x y v u Q I rx ry h
  obtain ⟨a, b, xs, ys, rfl, rfl, ha, hb, hz, q0, q1, q2⟩ := h
  cases rx
  cases ry
  obtain ⟨its, r1, p1, _⟩ := I.tuple ha
  obtain ⟨its2, r2, p2, _⟩ := I.tuple hb
  by_cases hx : xs = []
  · subst hx
    cases r1
    exact cat_tup0 p1 p2 ⟨.ref b, H, I, rfl, q0 rfl⟩
  · refine HT.cat_tup p1 p2 (fun z => hx (r1.nil_iff.mp z)) (fun z => ⟨.ref a, H, I, rfl, q1 hx (r2.nil_iff.mp z)⟩) (fun z => ?_) (by rw [← r1.length, ← r2.length]; exact hz)
    exact new_tup I rfl rfl rfl ⟨_, rfl⟩ (by rw [List.length_append]; exact hz) (r1.append r2) (q2 hx (fun w => z (r2.nil_iff.mpr w)))
/-- t[lo:hi] -/
def rSlP (K : PySem.W.Frag) : V → Option Int → Option Int → Hp → VK → Prop := fun x lo hi H Q => ∃ a xs, x = .ref a ∧ SqT K H a xs ∧
  (HT.sIx xs.length 0 lo = 0 ∧ HT.sIx xs.length xs.length hi = xs.length → Q (.ref a) H) ∧ (¬ (HT.sIx xs.length 0 lo = 0 ∧ HT.sIx xs.length xs.length hi = xs.length) → NewT H (cutV xs lo hi) Q)
theorem sl_tupP : SlR X (rSlP X.K) := by
  intro pins s σ H x v vl vu lo hi sl Q I rx hs pl pu h
  obtain ⟨a, xs, rfl, hx, q1, q2⟩ := h
  cases rx
  obtain ⟨its, r, ht, hz⟩ := I.tuple hx
  have hlen : its.toArray.size = xs.length := by rw [List.size_toArray]; exact r.length.symm
  refine ⟨"tuple", _, PyProof.Rows.slot_tuple_getitem.lookup, ht.typeIs, ?_⟩
  by_cases hw : HT.sIx xs.length 0 lo = 0 ∧ HT.sIx xs.length xs.length hi = xs.length
  · exact getItem_tuple_whole ht hs pl pu (by rw [hlen]; exact hw) ⟨.ref a, H, I, rfl, q1 hw⟩
  · refine HT.getItem_tuple_cut ht hs pl pu (by rw [hlen]; exact hw) ?_ (by rw [hlen]; exact hz)
    rw [hlen]
    exact new_tup I rfl rfl rfl ⟨_, rfl⟩ (Nat.le_trans (cutV_length xs lo hi) hz) ((r.drop (HT.sIx xs.length 0 lo)).take (HT.sIx xs.length xs.length hi - HT.sIx xs.length 0 lo)) (q2 hw)
/-- tuple(x) -/
def rTupP (K : PySem.W.Frag) : List V → Hp → VK → Prop := fun xs H Q => ∃ p ys, xs = [.ref p] ∧ ((SqL K H p ys ∧ NewT H ys Q) ∨ (SqT K H p ys ∧ Q (.ref p) H))
theorem cr_tupP : CallR X (.type "tuple") (rTupP X.K) := by
  intro pins s σ H xs us Q I r h
  obtain ⟨p, ys, rfl, h⟩ := h
  obtain ⟨u, rfl, rx⟩ := vals1 r
  cases rx
  rcases h with ⟨hq, q⟩ | ⟨hq, q⟩
  · obtain ⟨its, r', pl, hz⟩ := I.list hq
    have hlen := r'.length
    refine call_tuple_list pl.isList (fun h' kp => ?_) (by simp only [List.size_toArray] <;> omega)
    have I1 : Inv X pins σ H { s with heap := h' } := I.kept (t' := s.toks) kp
    exact new_tup I1 rfl rfl rfl ⟨_, rfl⟩ hz r' q
  · obtain ⟨its, _, p1, _⟩ := I.tuple hq
    exact call_tuple_same (items := its.toArray) p1 ⟨.ref p, H, I, rfl, q⟩
end
end PP

set_option Elab.async false
set_option linter.all false
set_option maxRecDepth 100000
set_option maxHeartbeats 4000000
namespace PP
open PySem PySem.Spec PyProof.Rows L2

abbrev D := PyData
/-- the key as data -/
def keyD : Key → D
  | .inl i => .int i
  | .inr x => .str x

mutual
def Rp (K : PySem.W.Frag) (H : Hp) : D → V → Prop
  | .none, v => v = .non
  | .bool b, v => v = .bl b
  | .int i, v => v = .int i
  | .str x, v => v = .str x
  | .list ds, v => ∃ (a : Addr) (xs : List V), v = .ref a ∧ H a = some (.lst xs) ∧ RpL K H ds xs
  | .tuple ds, v => ∃ (a : Addr) (xs : List V), v = .ref a ∧ FrT H a xs ∧ RpL K H ds xs
  | .dict kvs, v => ∃ (a : Addr) (ps : List (Key × V)), v = .ref a ∧ H a = some (.dK ps) ∧ RpK K H kvs ps
def RpL (K : PySem.W.Frag) (H : Hp) : List D → List V → Prop
  | [], vs => vs = []
  | d :: ds, vs => ∃ x xs, vs = x :: xs ∧ Rp K H d x ∧ RpL K H ds xs
def RpK (K : PySem.W.Frag) (H : Hp) : List (D × D) → List (Key × V) → Prop
  | [], ps => ps = []
  | (k, d) :: ds, ps => ∃ c x r, ps = (c, x) :: r ∧ k = keyD c ∧ Rp K H d x ∧ RpK K H ds r
end

def Le (F H : Hp) : Prop := ∀ a o, F a = some o → H a = some o
theorem Le.refl (F : Hp) : Le F F := fun _ _ h => h
theorem Le.trans {F G H : Hp} (a : Le F G) (b : Le G H) : Le F H := fun x o h => b x o (a x o h)
theorem Le.rd {F H : Hp} (l : Le F H) {a : Addr} {u : HO} (h : Rd F a u) : Rd H a u := by
  rcases h with h | ⟨o, h⟩
  · exact .inl (l _ _ h)
  · exact .inr ⟨o, l _ _ h⟩
theorem Le.frT {F H : Hp} (l : Le F H) {a : Addr} {xs : List V} (h : FrT F a xs) : FrT H a xs := by
  obtain ⟨o, h, r⟩ := h
  exact ⟨o, l _ _ h, r⟩
theorem Le.sqT {K : PySem.W.Frag} {F H : Hp} (l : Le F H) {a : Addr} {xs : List V} (h : FrT F a xs) : SqT K H a xs := (l.frT h).sq
theorem Le.sqL {K : PySem.W.Frag} {F H : Hp} (l : Le F H) {a : Addr} {xs : List V} (h : SqL K F a xs) : SqL K H a xs := by
  rcases h with h | h
  · exact .inl (l.rd h)
  · exact .inr h
theorem Le.upd {F H : Hp} (l : Le F H) {p : Addr} {o : HO} : Le (upd F p o) (upd H p o) := fun a u h => by
  by_cases e : a = p
  · subst e; rw [upd_same] at h ⊢; exact h
  · rw [upd_ne e] at h ⊢; exact l a u h
theorem Le.new {F : Hp} {p : Addr} {o : HO} (h : F p = none) : Le F (L2.upd F p o) := fun a u e => by
  rw [upd_ne (ne_of_none e h)]; exact e
theorem Le.at {F H : Hp} (l : Le F H) {p : Addr} {o : HO} (h : F p = none) : Le F (L2.upd H p o) := fun a u e => by
  rw [upd_ne (ne_of_none e h)]; exact l a u e
theorem Le.none {F H : Hp} (l : Le F H) {p : Addr} (h : H p = Option.none) : F p = Option.none := by
  cases e : F p with
  | none => rfl
  | some o => rw [l p o e] at h; cases h

mutual
theorem Rp.mono {K : PySem.W.Frag} {F H : Hp} (l : Le F H) : ∀ {d : D} {v : V}, Rp K F d v → Rp K H d v
  | .none, _, h => h
  | .bool _, _, h => h
  | .int _, _, h => h
  | .str _, _, h => h
  | .list _, _, ⟨a, xs, e, h, r⟩ => ⟨a, xs, e, l a _ h, RpL.mono l r⟩
  | .tuple _, _, ⟨a, xs, e, h, r⟩ => ⟨a, xs, e, l.frT h, RpL.mono l r⟩
  | .dict _, _, ⟨a, ps, e, h, r⟩ => ⟨a, ps, e, l a _ h, RpK.mono l r⟩
theorem RpL.mono {K : PySem.W.Frag} {F H : Hp} (l : Le F H) : ∀ {ds : List D} {vs : List V}, RpL K F ds vs → RpL K H ds vs
  | [], _, h => h
  | _ :: _, _, ⟨x, xs, e, h, r⟩ => ⟨x, xs, e, Rp.mono l h, RpL.mono l r⟩
theorem RpK.mono {K : PySem.W.Frag} {F H : Hp} (l : Le F H) : ∀ {ds : List (D × D)} {ps : List (Key × V)}, RpK K F ds ps → RpK K H ds ps
  | [], _, h => h
  | (_, _) :: _, _, ⟨c, x, r, e, k, h, t⟩ => ⟨c, x, r, e, k, Rp.mono l h, RpK.mono l t⟩
end

section
variable {K : PySem.W.Frag} {H : Hp}
theorem RpL.nil : RpL K H [] [] := rfl
theorem RpL.cons {d : D} {ds : List D} {v : V} {vs : List V} (h : Rp K H d v) (r : RpL K H ds vs) : RpL K H (d :: ds) (v :: vs) := ⟨v, vs, rfl, h, r⟩
theorem RpL.length : ∀ {ds : List D} {vs : List V}, RpL K H ds vs → vs.length = ds.length
  | [], _, h => by have h : _ = [] := h; subst h; rfl
  | _ :: ds, _, ⟨x, xs, e, _, r⟩ => by subst e; simp [RpL.length r]
theorem RpL.get : ∀ {ds : List D} {vs : List V} {i : Nat} {d : D}, RpL K H ds vs → ds[i]? = some d → ∃ v, vs[i]? = some v ∧ Rp K H d v
  | [], _, _, _, _, e => by simp at e
  | d :: ds, _, 0, _, ⟨x, xs, e, h, r⟩, q => by subst e; simp at q; subst q; exact ⟨x, rfl, h⟩
  | d :: ds, _, i + 1, _, ⟨x, xs, e, h, r⟩, q => by
    subst e
    obtain ⟨v, h1, h2⟩ := RpL.get (i := i) r (by simpa using q)
    exact ⟨v, by simpa using h1, h2⟩
theorem RpL.append : ∀ {ds es : List D} {vs ws : List V}, RpL K H ds vs → RpL K H es ws → RpL K H (ds ++ es) (vs ++ ws)
  | [], _, _, _, h, r => by have h : _ = [] := h; subst h; exact r
  | _ :: _, _, _, _, ⟨x, xs, e, h, t⟩, r => by subst e; exact ⟨x, xs ++ _, rfl, h, RpL.append t r⟩
theorem RpL.take : ∀ {ds : List D} {vs : List V} (n : Nat), RpL K H ds vs → RpL K H (ds.take n) (vs.take n)
  | _, _, 0, _ => rfl
  | [], _, n + 1, h => by have h : _ = [] := h; subst h; rfl
  | _ :: _, _, n + 1, ⟨x, xs, e, h, t⟩ => by subst e; exact ⟨x, xs.take n, rfl, h, RpL.take n t⟩
theorem RpL.drop : ∀ {ds : List D} {vs : List V} (n : Nat), RpL K H ds vs → RpL K H (ds.drop n) (vs.drop n)
  | _, _, 0, h => h
  | [], _, n + 1, h => by have h : _ = [] := h; subst h; rfl
  | _ :: _, _, n + 1, ⟨x, xs, e, h, t⟩ => by subst e; exact RpL.drop n t
theorem RpL.set : ∀ {ds : List D} {vs : List V} {d : D} {v : V} (i : Nat), RpL K H ds vs → Rp K H d v → RpL K H (ds.set i d) (vs.set i v)
  | [], _, _, _, _, h, _ => by have h : _ = [] := h; subst h; rfl
  | _ :: _, _, _, _, 0, ⟨x, xs, e, _, t⟩, q => by subst e; exact ⟨_, xs, rfl, q, t⟩
  | _ :: _, _, _, _, i + 1, ⟨x, xs, e, h, t⟩, q => by subst e; exact ⟨x, _, rfl, h, RpL.set i t q⟩
theorem RpL.eraseIdx : ∀ {ds : List D} {vs : List V} (i : Nat), RpL K H ds vs → RpL K H (ds.eraseIdx i) (vs.eraseIdx i)
  | [], _, _, h => by have h : _ = [] := h; subst h; rfl
  | _ :: _, _, 0, ⟨x, xs, e, _, t⟩ => by subst e; exact t
  | _ :: _, _, i + 1, ⟨x, xs, e, h, t⟩ => by subst e; exact ⟨x, _, rfl, h, RpL.eraseIdx i t⟩
theorem RpL.dropLast {ds : List D} {vs : List V} (h : RpL K H ds vs) : RpL K H ds.dropLast vs.dropLast := by
  rw [List.dropLast_eq_take, List.dropLast_eq_take, h.length]; exact h.take _
theorem RpL.reverse {ds : List D} {vs : List V} (h : RpL K H ds vs) : RpL K H ds.reverse vs.reverse := by
  induction ds generalizing vs with
  | nil => have h : _ = [] := h; subst h; rfl
  | cons d ds ih =>
    obtain ⟨x, xs, e, h, t⟩ := h
    subst e
    rw [List.reverse_cons, List.reverse_cons]
    exact (ih t).append (.cons h .nil)
theorem RpL.of_get : ∀ {ds : List D} {vs : List V}, vs.length = ds.length → (∀ (i : Nat) (d : D) (v : V), ds[i]? = some d → vs[i]? = some v → Rp K H d v) → RpL K H ds vs
  | [], [], _, _ => rfl
  | [], _ :: _, h, _ => by simp at h
  | _ :: _, [], h, _ => by simp at h
  | d :: ds, v :: vs, h, g => ⟨v, vs, rfl, g 0 d v rfl rfl, RpL.of_get (by simpa using h) fun i d' v' h1 h2 => g (i + 1) d' v' (by simpa using h1) (by simpa using h2)⟩
theorem RpL.ints (ns : List Int) : RpL K H (ns.map PyData.int) (ns.map V.int) := by
  induction ns with
  | nil => rfl
  | cons n ns ih => exact ⟨_, _, rfl, rfl, ih⟩
theorem RpL.ints_inv : ∀ {ns : List Int} {vs : List V}, RpL K H (ns.map PyData.int) vs → vs = ns.map V.int
  | [], _, h => h
  | n :: ns, _, ⟨x, xs, e, h, t⟩ => by
    have h : x = .int n := h
    subst e h
    rw [RpL.ints_inv t]; rfl
theorem RpL.bools (ns : List Bool) : RpL K H (ns.map PyData.bool) (ns.map V.bl) := by
  induction ns with
  | nil => rfl
  | cons n ns ih => exact ⟨_, _, rfl, rfl, ih⟩
theorem RpL.bools_inv : ∀ {ns : List Bool} {vs : List V}, RpL K H (ns.map PyData.bool) vs → vs = ns.map V.bl
  | [], _, h => h
  | n :: ns, _, ⟨x, xs, e, h, t⟩ => by
    have h : x = .bl n := h
    subst e h
    rw [RpL.bools_inv t]; rfl
end

/-! ### the region that may change through a call (a deck) -/
structure Rg where
  root : V
  mem : Addr → Prop
  ok : Hp → Prop
  loc : ∀ H H' : Hp, (∀ a, mem a → H' a = H a) → ok H → ok H'
  dom : ∀ H : Hp, ok H → ∀ a, mem a → H a ≠ none
/-- the laws' deck: the great cells, all cells, how many numbers were drawn -/
def DeckIn (a b c : Addr) (H : Hp) : Prop := (a ≠ b ∧ a ≠ c ∧ b ≠ c) ∧ ∃ (gs cs : List Int) (n : Int),
  H a = some (.lst [.ref b, .ref c, .int n]) ∧ H b = some (.lst (gs.map V.int)) ∧ H c = some (.lst (cs.map V.int)) ∧ gs.length ≤ 100 ∧ 0 < cs.length ∧ cs.length ≤ 100 ∧ 0 ≤ n
def deckRg (a b c : Addr) : Rg where
  root := .ref a
  mem := fun x => x = a ∨ x = b ∨ x = c
  ok := DeckIn a b c
  loc := fun H H' h ⟨d, gs, cs, n, h1, h2, h3, r⟩ => ⟨d, gs, cs, n, by rw [h a (.inl rfl)]; exact h1, by rw [h b (.inr (.inl rfl))]; exact h2, by rw [h c (.inr (.inr rfl))]; exact h3, r⟩
  dom := fun H ⟨d, gs, cs, n, h1, h2, h3, r⟩ x hx => by
    rcases hx with e | e | e
    · subst e; rw [h1]; exact fun z => nomatch z
    · subst e; rw [h2]; exact fun z => nomatch z
    · subst e; rw [h3]; exact fun z => nomatch z
def IsDeck (g : Rg) : Prop := ∃ a b c, g = deckRg a b c
def Rg.no : Rg := ⟨.non, fun _ => False, fun _ => True, fun _ _ _ _ => trivial, fun _ _ _ h => h.elim⟩

structure Bs (g : Rg) (F H : Hp) : Prop where
  sub : Le F H
  ok : g.ok H
  out : ∀ a, g.mem a → F a = none
structure Stp (g : Rg) (F H F' H' : Hp) : Prop where
  mono : Le F F'
  sub : Le F' H'
  new : ∀ a o, F' a = some o → F a = some o ∨ H a = none
  keep : ∀ a o, H a = some o → ¬ g.mem a → H' a = some o
  ok : g.ok H'
section
variable {g : Rg} {F H F1 H1 F2 H2 : Hp}
theorem Bs.refl (b : Bs g F H) : Stp g F H F H := ⟨.refl _, b.sub, fun _ _ h => .inl h, fun _ _ h _ => h, b.ok⟩
theorem Stp.bs (s : Stp g F H F1 H1) (b : Bs g F H) : Bs g F1 H1 := ⟨s.sub, s.ok, fun a m => by
  cases e : F1 a with
  | none => rfl
  | some o =>
    rcases s.new a o e with q | q
    · rw [b.out a m] at q; cases q
    · exact absurd q (g.dom H b.ok a m)⟩
theorem Stp.old (s : Stp g F H F1 H1) {a : Addr} (h : H1 a = none) : H a = none := by
  cases e : H a with
  | none => rfl
  | some o =>
    by_cases m : g.mem a
    · exact absurd h (g.dom _ s.ok a m)
    · rw [s.keep a o e m] at h; cases h
theorem Stp.trans (s : Stp g F H F1 H1) (t : Stp g F1 H1 F2 H2) : Stp g F H F2 H2 where
  mono := s.mono.trans t.mono
  sub := t.sub
  new := fun a o h => by
    rcases t.new a o h with q | q
    · exact s.new a o q
    · exact .inr (s.old q)
  keep := fun a o h m => t.keep a o (s.keep a o h m) m
  ok := t.ok
/-- a new object, frozen -/
theorem Bs.alloc (b : Bs g F H) {p : Addr} (h : H p = none) (o : HO) : Stp g F H (upd F p o) (upd H p o) where
  mono := .new (b.sub.none h)
  sub := b.sub.upd
  new := fun a u e => by
    by_cases q : a = p
    · subst q; exact .inr h
    · rw [upd_ne q] at e; exact .inl e
  keep := fun a u e _ => by rw [upd_ne (ne_of_none e h)]; exact e
  ok := g.loc _ _ (fun a m => upd_ne (fun e => by subst e; exact g.dom _ b.ok _ m h)) b.ok
/-- a new object, not frozen -/
theorem Bs.hide (b : Bs g F H) {p : Addr} (h : H p = none) (o : HO) : Stp g F H F (upd H p o) where
  mono := .refl _
  sub := b.sub.at (b.sub.none h)
  new := fun a u e => .inl e
  keep := fun a u e _ => by rw [upd_ne (ne_of_none e h)]; exact e
  ok := g.loc _ _ (fun a m => upd_ne (fun e => by subst e; exact g.dom _ b.ok _ m h)) b.ok
/-- an object that is not known to F and not of the start changes -/
theorem Stp.poke (s : Stp g F H F1 H1) {p : Addr} (h : H p = none) (f : F1 p = none) (m : ¬ g.mem p) (o : HO) : Stp g F H F1 (upd H1 p o) where
  mono := s.mono
  sub := s.sub.at f
  new := s.new
  keep := fun a u e n => by rw [upd_ne (ne_of_none e h)]; exact s.keep a u e n
  ok := g.loc _ _ (fun a n => upd_ne (fun e => by subst e; exact m n)) s.ok
/-- an object of ours is frozen -/
theorem Stp.freeze (s : Stp g F H F1 H1) {p : Addr} {o : HO} (h : H p = none) (f : F1 p = none) (e : H1 p = some o) : Stp g F H (upd F1 p o) H1 where
  mono := s.mono.trans (.new f)
  sub := fun a u q => by
    by_cases r : a = p
    · subst r; rw [upd_same] at q; cases q; exact e
    · rw [upd_ne r] at q; exact s.sub a u q
  new := fun a u q => by
    by_cases r : a = p
    · subst r; exact .inr h
    · rw [upd_ne r] at q; exact s.new a u q
  keep := s.keep
  ok := s.ok
end
end PP

set_option Elab.async false
set_option linter.all false
set_option maxRecDepth 100000
set_option maxHeartbeats 4000000
namespace PP
open PySem PySem.Spec PyProof.Rows L2

/-- what a field of an object of ours holds: a value, a list of ours, a dict of ours -/
inductive Fk where
  | val | own | od
  deriving DecidableEq
inductive Md where
  | val | own | bor | dk | od | oo
  /-- an error, or a list of errors, that stays as it is -/
  | ex
  /-- an object of ours: its class, its fields in their order -/
  | ob (c : Str) (fs : List (Str × Fk))
  deriving DecidableEq
def Md.mine : Md → Bool
  | .own => true | .od => true | _ => false
def Md.mutb : Md → Bool
  | .own => true | .od => true | .oo => true | .ob _ _ => true | _ => false
/-- the only thing of ours, not to be read as it is -/
def Md.opq : Md → Bool
  | .oo => true | .ob _ _ => true | .ex => true | _ => false
/-- the one class of objects of ours -/
def OneC (K : PySem.W.Frag) (c : Str) (C : Addr) : Prop := PySem.W.nsIn K mainGlobals c = some (some (.ref C))
theorem Md.mine_mut {m : Md} (h : m.mine = true) : m.mutb = true := by cases m <;> first | rfl | cases h
/-- lists of ours, of unlike addresses -/
def InnerOk (F H : Hp) (g : Rg) (eH : Hp) (R : List D → List V → Prop) : List Addr → List (List D) → Prop
  | [], dss => dss = []
  | a :: as, dss => ∃ ds dr vs, dss = ds :: dr ∧ H a = some (.lst vs) ∧ R ds vs ∧ F a = none ∧ eH a = none ∧ ¬ g.mem a ∧ InnerOk F H g eH R as dr
abbrev En := List (Option D)
def gt : En → Nat → Option D
  | [], _ => none
  | x :: _, 0 => x
  | _ :: r, i + 1 => gt r i
def sv : En → Nat → Option D → En
  | [], _, _ => []
  | _ :: r, 0, d => d :: r
  | x :: r, i + 1, d => x :: sv r i d
theorem sv_len : ∀ (ρ : En) (i : Nat) (d : Option D), (sv ρ i d).length = ρ.length
  | [], _, _ => rfl
  | _ :: _, 0, _ => rfl
  | _ :: r, i + 1, d => by simp [sv, sv_len r i d]
theorem gt_sv : ∀ (ρ : En) (i j : Nat) (d : Option D), gt (sv ρ i d) j = if j = i then (if i < ρ.length then d else none) else gt ρ j
  | [], i, j, d => by simp [sv, gt]
  | x :: r, 0, 0, d => by simp [sv, gt]
  | x :: r, 0, j + 1, d => by simp [sv, gt]
  | x :: r, i + 1, 0, d => by simp [sv, gt]
  | x :: r, i + 1, j + 1, d => by simp [sv, gt, gt_sv r i j d]
def md (M : List Md) (i : Nat) : Md := M.getD i .val
/-- a list of lists of ours is the only thing of ours -/
def soloM (_ : List Md) : Bool := true

structure Ent where
  g : Rg
  F : Hp
  H : Hp
  Fb : Hp
abbrev Ent.low (e : Ent) (L : Hp) : Ent := { e with Fb := L }

def FldOk (K : PySem.W.Frag) (F H : Hp) (g : Rg) (eH : Hp) : Fk → D → V → Prop
  | .val, d, v => Rp K F d v
  | .own, d, v => ∃ p vs ds, v = .ref p ∧ d = .list ds ∧ H p = some (.lst vs) ∧ RpL K F ds vs ∧ F p = none ∧ eH p = none ∧ ¬ g.mem p
  | .od, d, v => ∃ p ps ks, v = .ref p ∧ d = .dict ks ∧ H p = some (.dK ps) ∧ RpK K F ks ps ∧ F p = none ∧ eH p = none ∧ ¬ g.mem p
def FldsOk (K : PySem.W.Frag) (F H : Hp) (g : Rg) (eH : Hp) : List (Str × Fk) → List (Str × V) → List (D × D) → Prop
  | [], fs, ks => fs = [] ∧ ks = []
  | (f, k) :: r, fs, ks => ∃ x d fr kr, fs = (f, x) :: fr ∧ ks = (.str f, d) :: kr ∧ FldOk K F H g eH k d x ∧ FldsOk K F H g eH r fr kr
def ownA : List (Str × Fk) → List (Str × V) → List Addr
  | (_, k) :: r, (_, x) :: fr => (match k, x with | .own, .ref p => [p] | .od, .ref p => [p] | _, _ => []) ++ ownA r fr
  | _, _ => []
/-- an error object of the class cls at a, o its dict -/
def ExV (cls : Value) (o : Option Addr) (a : Addr) : HO := .ext fun h => ∃ (oe : Obj) (vs : Array Value), h.get? a = some oe ∧ (oe.cls = cls ∧ oe.dict = o) ∧ oe.data = .fields vs
def ExF (K : PySem.W.Frag) (F : Hp) : List (Str × D) → List (Str × V) → Prop
  | [], vs => vs = []
  | (f, d) :: r, vs => ∃ x t, vs = (f, x) :: t ∧ Rp K F d x ∧ ExF K F r t
def exD (C : Addr) (ks : List (Str × D)) : D := .tuple [.int ((C : Nat) : Int), .dict (ks.map fun p => (.str p.1, p.2))]
def Ex1 (K : PySem.W.Frag) (F : Hp) (d : D) (v : V) : Prop := ∃ (a C : Addr) (o : Option Addr) (ks : List (Str × D)), v = .ref a ∧ d = exD C ks ∧ F a = some (ExV (.ref C) o a) ∧ (o = none → ks = []) ∧ ∀ dx, o = some dx → ∃ vs, F dx = some (.xd vs) ∧ ExF K F ks vs
def ExL (K : PySem.W.Frag) (F : Hp) : List D → List V → Prop
  | [], vs => vs = []
  | d :: r, vs => ∃ x t, vs = x :: t ∧ Ex1 K F d x ∧ ExL K F r t
def ExM (K : PySem.W.Frag) (F : Hp) (d : D) (v : V) : Prop := Ex1 K F d v ∨ ∃ p vs ds, v = .ref p ∧ d = .list ds ∧ F p = some (.lst vs) ∧ ExL K F ds vs
theorem ExF.mono {K : PySem.W.Frag} {F F' : Hp} (l : Le F F') : ∀ {ks : List (Str × D)} {vs : List (Str × V)}, ExF K F ks vs → ExF K F' ks vs
  | [], _, h => h
  | _ :: _, _, ⟨x, t, e, h, r⟩ => ⟨x, t, e, h.mono l, ExF.mono l r⟩
theorem Ex1.mono {K : PySem.W.Frag} {F F' : Hp} (l : Le F F') {d : D} {v : V} : Ex1 K F d v → Ex1 K F' d v
  | ⟨a, C, o, ks, h1, h2, h3, h4, h5⟩ => ⟨a, C, o, ks, h1, h2, l _ _ h3, h4, fun dx e => let ⟨vs, q, r⟩ := h5 dx e; ⟨vs, l _ _ q, r.mono l⟩⟩
theorem ExL.mono {K : PySem.W.Frag} {F F' : Hp} (l : Le F F') : ∀ {ds : List D} {vs : List V}, ExL K F ds vs → ExL K F' ds vs
  | [], _, h => h
  | _ :: _, _, ⟨x, t, e, h, r⟩ => ⟨x, t, e, h.mono l, ExL.mono l r⟩
theorem ExM.mono {K : PySem.W.Frag} {F F' : Hp} (l : Le F F') {d : D} {v : V} : ExM K F d v → ExM K F' d v
  | .inl h => .inl (h.mono l)
  | .inr ⟨p, vs, ds, h1, h2, h3, h4⟩ => .inr ⟨p, vs, ds, h1, h2, l _ _ h3, h4.mono l⟩
def SlotOk (K : PySem.W.Frag) (e : Ent) (g : Rg) (F H : Hp) : Md → D → V → Prop
  | .val, d, v => Rp K F d v
  | .ex, d, v => ExM K F d v
  | .own, d, v => ∃ p vs ds, v = .ref p ∧ d = .list ds ∧ H p = some (.lst vs) ∧ RpL K F ds vs ∧ F p = none ∧ e.H p = none ∧ ¬ g.mem p
  | .od, d, v => ∃ p ps ks, v = .ref p ∧ d = .dict ks ∧ H p = some (.dK ps) ∧ RpK K F ks ps ∧ F p = none ∧ e.H p = none ∧ ¬ g.mem p
  | .bor, d, v => ∃ p vs ds, v = .ref p ∧ d = .list ds ∧ e.H p = some (.lst vs) ∧ RpL K F ds vs ∧ ¬ e.g.mem p
  | .dk, _, v => v = g.root ∧ IsDeck g
  | .oo, d, v => ∃ p as dss, v = .ref p ∧ d = .list (dss.map PyData.list) ∧ H p = some (.lst (as.map V.ref)) ∧ InnerOk F H g e.H (RpL K F) as dss ∧ F p = none ∧ e.H p = none ∧ ¬ g.mem p ∧ (p :: as).Nodup
  | .ob c fks, d, v => ∃ a dx C fs ks, v = .ref a ∧ d = .dict ((.none, .int ((a : Nat) : Int)) :: ks) ∧ H a = some (.ins C dx fs) ∧ H dx = some (.own a) ∧ FldsOk K F H g e.H fks fs ks ∧ (F a = none ∧ F dx = none) ∧ (e.H a = none ∧ e.H dx = none) ∧ (¬ g.mem a ∧ ¬ g.mem dx) ∧ (ownA fks fs).Nodup ∧ OneC K c C

def own1 (k : Fk) (x : V) : List Addr := match k, x with
  | .own, .ref p => [p]
  | .od, .ref p => [p]
  | _, _ => []
theorem ownA_cons (y z : Str) (k : Fk) (x : V) (r : List (Str × Fk)) (fr : List (Str × V)) : ownA ((y, k) :: r) ((z, x) :: fr) = own1 k x ++ ownA r fr := by
  cases k <;> cases x <;> rfl
/-- what is ours of a slot -/
def foot (H : Hp) : Md → V → Addr → Prop
  | .own, v, p => v = .ref p
  | .od, v, p => v = .ref p
  | .oo, v, p => ∃ a, v = .ref a ∧ (p = a ∨ ∃ vs, H a = some (.lst vs) ∧ V.ref p ∈ vs)
  | .ob _ fks, v, p => ∃ a, v = .ref a ∧ (p = a ∨ ∃ C dx fs, H a = some (.ins C dx fs) ∧ (p = dx ∨ p ∈ ownA fks fs))
  | _, _, _ => False
section
variable {K : PySem.W.Frag} {e : Ent} {g : Rg} {F H H2 : Hp} {eH : Hp}
theorem InnerOk.at {R : List D → List V → Prop} : ∀ {as : List Addr} {dss : List (List D)}, InnerOk F H g eH R as dss → ∀ p ∈ as, (∃ o, H p = some o) ∧ F p = none ∧ eH p = none ∧ ¬ g.mem p
  | [], _, _, p, hp => by cases hp
  | a :: as, _, ⟨ds, dr, vs, h1, h2, h3, h4, h5, h6, h7⟩, p, hp => by
    rcases List.mem_cons.mp hp with rfl | hp
    · exact ⟨⟨_, h2⟩, h4, h5, h6⟩
    · exact InnerOk.at h7 p hp
theorem InnerOk.off {R : List D → List V → Prop} : ∀ {as : List Addr} {dss : List (List D)}, (∀ p ∈ as, ∀ o, H p = some o → H2 p = some o) → InnerOk F H g eH R as dss → InnerOk F H2 g eH R as dss
  | [], _, _, h => h
  | a :: as, _, k, ⟨ds, dr, vs, h1, h2, h3, h4, h5, h6, h7⟩ => ⟨ds, dr, vs, h1, k a List.mem_cons_self _ h2, h3, h4, h5, h6, InnerOk.off (fun p hp => k p (List.mem_cons_of_mem _ hp)) h7⟩
theorem FldOk.mem : ∀ {k : Fk} {d : D} {x : V}, FldOk K F H g eH k d x → ∀ p ∈ own1 k x, (∃ o, H p = some o) ∧ F p = none ∧ eH p = none ∧ ¬ g.mem p
  | .val, _, x, _, p, hp => by cases x <;> cases hp
  | .own, _, _, ⟨q, vs, ds, h1, h2, h3, h4, h5, h6, h7⟩, p, hp => by
    subst h1
    rw [List.mem_singleton.mp hp]
    exact ⟨⟨_, h3⟩, h5, h6, h7⟩
  | .od, _, _, ⟨q, vs, ds, h1, h2, h3, h4, h5, h6, h7⟩, p, hp => by
    subst h1
    rw [List.mem_singleton.mp hp]
    exact ⟨⟨_, h3⟩, h5, h6, h7⟩
theorem FldsOk.mem : ∀ {fks : List (Str × Fk)} {fs : List (Str × V)} {ks : List (D × D)}, FldsOk K F H g eH fks fs ks → ∀ p ∈ ownA fks fs, (∃ o, H p = some o) ∧ F p = none ∧ eH p = none ∧ ¬ g.mem p
  | [], fs, _, h, p, hp => by
    obtain ⟨rfl, _⟩ := h
    cases hp
  | (y, k) :: r, fs, ks, ⟨x, d, fr, kr, e1, e2, h3, h4⟩, p, hp => by
    subst e1
    rw [ownA_cons] at hp
    rcases List.mem_append.mp hp with hp | hp
    · exact h3.mem p hp
    · exact FldsOk.mem h4 p hp
theorem FldOk.off : ∀ {k : Fk} {d : D} {x : V}, (∀ p ∈ own1 k x, ∀ o, H p = some o → H2 p = some o) → FldOk K F H g eH k d x → FldOk K F H2 g eH k d x
  | .val, _, _, _, h => h
  | .own, _, _, k, ⟨q, vs, ds, h1, h2, h3, h4, h5, h6, h7⟩ => by
    subst h1
    exact ⟨q, vs, ds, rfl, h2, k q (List.mem_singleton.mpr rfl) _ h3, h4, h5, h6, h7⟩
  | .od, _, _, k, ⟨q, vs, ds, h1, h2, h3, h4, h5, h6, h7⟩ => by
    subst h1
    exact ⟨q, vs, ds, rfl, h2, k q (List.mem_singleton.mpr rfl) _ h3, h4, h5, h6, h7⟩
theorem FldsOk.off : ∀ {fks : List (Str × Fk)} {fs : List (Str × V)} {ks : List (D × D)}, (∀ p ∈ ownA fks fs, ∀ o, H p = some o → H2 p = some o) → FldsOk K F H g eH fks fs ks → FldsOk K F H2 g eH fks fs ks
  | [], _, _, _, h => h
  | (y, k) :: r, fs, ks, q, ⟨x, d, fr, kr, e1, e2, h3, h4⟩ => by
    subst e1
    rw [ownA_cons] at q
    exact ⟨x, d, fr, kr, rfl, e2, h3.off (fun p hp => q p (List.mem_append_left _ hp)), FldsOk.off (fun p hp => q p (List.mem_append_right _ hp)) h4⟩
theorem InnerOk.up {F2 : Hp} (l : Le F F2) : ∀ {as : List Addr} {dss : List (List D)}, InnerOk F H g eH (RpL K F) as dss → (∀ p ∈ as, F2 p = none) → InnerOk F2 H g eH (RpL K F2) as dss
  | [], _, h, _ => h
  | a :: as, _, ⟨ds, dr, vs, h1, h2, h3, h4, h5, h6, h7⟩, k => ⟨ds, dr, vs, h1, h2, h3.mono l, k a List.mem_cons_self, h5, h6, InnerOk.up l h7 fun p hp => k p (List.mem_cons_of_mem _ hp)⟩
theorem FldOk.up {F2 : Hp} (l : Le F F2) : ∀ {k : Fk} {d : D} {x : V}, FldOk K F H g eH k d x → (∀ p ∈ own1 k x, F2 p = none) → FldOk K F2 H g eH k d x
  | .val, _, _, h, _ => Rp.mono l h
  | .own, _, _, ⟨q, vs, ds, h1, h2, h3, h4, h5, h6, h7⟩, k => by
    subst h1
    exact ⟨q, vs, ds, rfl, h2, h3, h4.mono l, k q (List.mem_singleton.mpr rfl), h6, h7⟩
  | .od, _, _, ⟨q, vs, ds, h1, h2, h3, h4, h5, h6, h7⟩, k => by
    subst h1
    exact ⟨q, vs, ds, rfl, h2, h3, h4.mono l, k q (List.mem_singleton.mpr rfl), h6, h7⟩
theorem FldsOk.up {F2 : Hp} (l : Le F F2) : ∀ {fks : List (Str × Fk)} {fs : List (Str × V)} {ks : List (D × D)}, FldsOk K F H g eH fks fs ks → (∀ p ∈ ownA fks fs, F2 p = none) → FldsOk K F2 H g eH fks fs ks
  | [], _, _, h, _ => h
  | (y, k) :: r, fs, ks, ⟨x, d, fr, kr, e1, e2, h3, h4⟩, q => by
    subst e1
    rw [ownA_cons] at q
    exact ⟨x, d, fr, kr, rfl, e2, h3.up l (fun p hp => q p (List.mem_append_left _ hp)), FldsOk.up l h4 (fun p hp => q p (List.mem_append_right _ hp))⟩
theorem SlotOk.footBack : ∀ {m : Md} {d : D} {v : V}, SlotOk K e g F H m d v → (∀ a o, v = .ref a → H a = some o → F a = none → ¬ g.mem a → e.H a = none → foot H m v a → H2 a = some o) → ∀ {p : Addr}, foot H2 m v p → foot H m v p
  | .val, _, _, _, _, _, f => f
  | .dk, _, _, _, _, _, f => f
  | .bor, _, _, _, _, _, f => f
  | .own, _, _, _, _, _, f => f
  | .od, _, _, _, _, _, f => f
  | .oo, _, _, ⟨p0, as, dss, e1, e2, h3, h4, h5, h6, h7, h8⟩, k, p, ⟨a, ea, q⟩ => by
    subst e1
    cases ea
    have h3' := k p0 _ rfl h3 h5 h7 h6 ⟨p0, rfl, .inl rfl⟩
    refine ⟨p0, rfl, ?_⟩
    rcases q with q | ⟨vs, hv, hm⟩
    · exact .inl q
    · rw [h3'] at hv
      cases hv
      exact .inr ⟨_, h3, hm⟩
  | .ob c fks, _, _, ⟨a0, dx, C, fs, ks, e1, e2, h3, h4, h5, h6, h7, h8, h9, h10⟩, k, p, ⟨a, ea, q⟩ => by
    subst e1
    cases ea
    have h3' := k a0 _ rfl h3 h6.1 h8.1 h7.1 ⟨a0, rfl, .inl rfl⟩
    refine ⟨a0, rfl, ?_⟩
    rcases q with q | ⟨C', dx', fs', hv, hm⟩
    · exact .inl q
    · rw [h3'] at hv
      cases hv
      exact .inr ⟨_, _, _, h3, hm⟩
theorem SlotOk.footAt : ∀ {m : Md} {d : D} {v : V}, SlotOk K e g F H m d v → ∀ {p : Addr}, foot H m v p → (∃ o, H p = some o) ∧ F p = none ∧ e.H p = none ∧ ¬ g.mem p
  | .val, _, _, _, _, f => f.elim
  | .dk, _, _, _, _, f => f.elim
  | .bor, _, _, _, _, f => f.elim
  | .own, _, _, ⟨p0, vs, ds, h1, h2, h3, h4, h5, h6, h7⟩, p, f => by
    subst h1
    cases f
    exact ⟨⟨_, h3⟩, h5, h6, h7⟩
  | .od, _, _, ⟨p0, vs, ds, h1, h2, h3, h4, h5, h6, h7⟩, p, f => by
    subst h1
    cases f
    exact ⟨⟨_, h3⟩, h5, h6, h7⟩
  | .oo, _, _, ⟨p0, as, dss, e1, e2, h3, h4, h5, h6, h7, h8⟩, p, ⟨a, ea, q⟩ => by
    subst e1
    cases ea
    rcases q with rfl | ⟨vs, hv, hm⟩
    · exact ⟨⟨_, h3⟩, h5, h6, h7⟩
    · rw [h3] at hv
      cases hv
      obtain ⟨b, hb, eb⟩ := List.mem_map.mp hm
      cases eb
      exact h4.at p hb
  | .ob c fks, _, _, ⟨a0, dx, C, fs, ks, e1, e2, h3, h4, h5, h6, h7, h8, h9, h10⟩, p, ⟨a, ea, q⟩ => by
    subst e1
    cases ea
    rcases q with rfl | ⟨C', dx', fs', hv, hm⟩
    · exact ⟨⟨_, h3⟩, h6.1, h7.1, h8.1⟩
    · rw [h3] at hv
      cases hv
      rcases hm with rfl | hm
      · exact ⟨⟨_, h4⟩, h6.2, h7.2, h8.2⟩
      · exact h5.mem p hm
/-- a slot stays as it is where nothing of it changes -/
theorem SlotOk.off : ∀ {m : Md} {d : D} {v : V}, SlotOk K e g F H m d v → (∀ p o, foot H m v p → H p = some o → H2 p = some o) → SlotOk K e g F H2 m d v
  | .val, _, _, h, _ => h
  | .ex, _, _, h, _ => h
  | .dk, _, _, h, _ => h
  | .bor, _, _, h, _ => h
  | .own, _, _, ⟨p0, vs, ds, h1, h2, h3, h4, h5, h6, h7⟩, k => ⟨p0, vs, ds, h1, h2, k p0 _ h1 h3, h4, h5, h6, h7⟩
  | .od, _, _, ⟨p0, vs, ds, h1, h2, h3, h4, h5, h6, h7⟩, k => ⟨p0, vs, ds, h1, h2, k p0 _ h1 h3, h4, h5, h6, h7⟩
  | .oo, _, _, ⟨p0, as, dss, e1, e2, h3, h4, h5, h6, h7, h8⟩, k => ⟨p0, as, dss, e1, e2, k p0 _ ⟨p0, e1, .inl rfl⟩ h3, h4.off (fun p hp o ho => k p o ⟨p0, e1, .inr ⟨_, h3, List.mem_map.mpr ⟨p, hp, rfl⟩⟩⟩ ho), h5, h6, h7, h8⟩
  | .ob c fks, _, _, ⟨a0, dx, C, fs, ks, e1, e2, h3, h4, h5, h6, h7, h8, h9, h10⟩, k => ⟨a0, dx, C, fs, ks, e1, e2, k a0 _ ⟨a0, e1, .inl rfl⟩ h3, k dx _ ⟨a0, e1, .inr ⟨_, _, _, h3, .inl rfl⟩⟩ h4, h5.off (fun p hp o ho => k p o ⟨a0, e1, .inr ⟨_, _, _, h3, .inr hp⟩⟩ ho), h6, h7, h8, h9, h10⟩
theorem SlotOk.upF {F2 : Hp} (l : Le F F2) : ∀ {m : Md} {d : D} {v : V}, SlotOk K e g F H m d v → (∀ p, foot H m v p → F2 p = none) → SlotOk K e g F2 H m d v
  | .val, _, _, h, _ => Rp.mono l h
  | .ex, _, _, h, _ => ExM.mono l h
  | .dk, _, _, h, _ => h
  | .bor, _, _, ⟨p, vs, ds, k1, k2, k3, k4, k5⟩, _ => ⟨p, vs, ds, k1, k2, k3, k4.mono l, k5⟩
  | .own, _, _, ⟨p0, vs, ds, h1, h2, h3, h4, h5, h6, h7⟩, k => ⟨p0, vs, ds, h1, h2, h3, h4.mono l, k p0 h1, h6, h7⟩
  | .od, _, _, ⟨p0, vs, ds, h1, h2, h3, h4, h5, h6, h7⟩, k => ⟨p0, vs, ds, h1, h2, h3, h4.mono l, k p0 h1, h6, h7⟩
  | .oo, _, _, ⟨p0, as, dss, e1, e2, h3, h4, h5, h6, h7, h8⟩, k => ⟨p0, as, dss, e1, e2, h3, h4.up l (fun q hq => k q ⟨p0, e1, .inr ⟨_, h3, List.mem_map.mpr ⟨q, hq, rfl⟩⟩⟩), k p0 ⟨p0, e1, .inl rfl⟩, h6, h7, h8⟩
  | .ob c fks, _, _, ⟨a0, dx, C, fs, ks, e1, e2, h3, h4, h5, h6, h7, h8, h9, h10⟩, k => ⟨a0, dx, C, fs, ks, e1, e2, h3, h4, h5.up l (fun q hq => k q ⟨a0, e1, .inr ⟨_, _, _, h3, .inr hq⟩⟩), ⟨k a0 ⟨a0, e1, .inl rfl⟩, k dx ⟨a0, e1, .inr ⟨_, _, _, h3, .inl rfl⟩⟩⟩, h7, h8, h9, h10⟩
theorem foot_mine {m : Md} {v : V} {p : Addr} (h : m.mine = true) : foot H m v p ↔ v = .ref p := by
  cases m <;> first | exact Iff.rfl | cases h
end
structure SR (K : PySem.W.Frag) (e : Ent) (M : List Md) (g : Rg) (F H : Hp) (σ : L2.St) (ρ : En) : Prop where
  bs : Bs g F H
  stp : Stp e.g e.F e.H F H
  grel : g = e.g ∨ (e.g = Rg.no ∧ ∀ a, g.mem a → e.H a = none)
  len : σ.length = ρ.length
  slot : ∀ i d, gt ρ i = some d → ∃ v, σ[i]? = some (some v) ∧ SlotOk K e g F H (md M i) d v
  dis : ∀ i j v w p, i ≠ j → gt ρ i ≠ none → gt ρ j ≠ none → σ[i]? = some (some v) → σ[j]? = some (some w) → foot H (md M i) v p → foot H (md M j) w p → False
  low : Le e.Fb F
  solo : True

section
variable {K : PySem.W.Frag} {e : Ent} {M : List Md} {g : Rg} {F H F' H' : Hp} {σ : L2.St} {ρ : En}
theorem SR.keepB (s : SR K e M g F H σ ρ) {a : Addr} {o : HO} (h : e.H a = some o) (n : ¬ e.g.mem a) : ¬ g.mem a := by
  rcases s.grel with q | ⟨_, q⟩
  · rw [q]; exact n
  · intro m; rw [q a m] at h; cases h
theorem SR.stp' (s : SR K e M g F H σ ρ) (t : Stp g F H F' H') : Stp e.g e.F e.H F' H' := by
  rcases s.grel with q | ⟨q1, q2⟩
  · have t' := t
    rw [q] at t'
    exact s.stp.trans t'
  · refine ⟨s.stp.mono.trans t.mono, t.sub, fun a o h => ?_, fun a o h m => ?_, by rw [q1]; trivial⟩
    · rcases t.new a o h with z | z
      · exact s.stp.new a o z
      · exact .inr (s.stp.old z)
    · exact t.keep a o (s.stp.keep a o h m) fun z => by rw [q2 a z] at h; cases h
theorem Stp.no (t : Stp g F H F' H') {p : Addr} {o : HO} (h : H p = some o) (f : F p = none) : F' p = none := by
  cases q : F' p with
  | none => rfl
  | some u =>
    rcases t.new p u q with z | z
    · rw [f] at z; cases z
    · rw [h] at z; cases z
theorem InnerOk.step (t : Stp g F H F' H') {eH : Hp} : ∀ {as : List Addr} {dss : List (List D)}, InnerOk F H g eH (RpL K F) as dss → InnerOk F' H' g eH (RpL K F') as dss
  | [], _, h => h
  | _ :: _, _, ⟨ds, dr, vs, h1, h2, h3, h4, h5, h6, h7⟩ => ⟨ds, dr, vs, h1, t.keep _ _ h2 h6, h3.mono t.mono, t.no h2 h4, h5, h6, InnerOk.step t h7⟩
theorem FldOk.step (t : Stp g F H F' H') {eH : Hp} : ∀ {k : Fk} {d : D} {v : V}, FldOk K F H g eH k d v → FldOk K F' H' g eH k d v
  | .val, _, _, h => Rp.mono t.mono h
  | .own, _, _, ⟨p, vs, ds, h1, h2, h3, h4, h5, h6, h7⟩ => ⟨p, vs, ds, h1, h2, t.keep _ _ h3 h7, h4.mono t.mono, t.no h3 h5, h6, h7⟩
  | .od, _, _, ⟨p, vs, ds, h1, h2, h3, h4, h5, h6, h7⟩ => ⟨p, vs, ds, h1, h2, t.keep _ _ h3 h7, h4.mono t.mono, t.no h3 h5, h6, h7⟩
theorem FldsOk.step (t : Stp g F H F' H') {eH : Hp} : ∀ {fks : List (Str × Fk)} {fs : List (Str × V)} {ks : List (D × D)}, FldsOk K F H g eH fks fs ks → FldsOk K F' H' g eH fks fs ks
  | [], _, _, h => h
  | _ :: _, _, _, ⟨x, d, fr, kr, h1, h2, h3, h4⟩ => ⟨x, d, fr, kr, h1, h2, h3.step t, FldsOk.step t h4⟩
theorem SlotOk.step (t : Stp g F H F' H') : ∀ {m : Md} {d : D} {v : V}, SlotOk K e g F H m d v → SlotOk K e g F' H' m d v
  | .val, _, _, h => Rp.mono t.mono h
  | .ex, _, _, h => ExM.mono t.mono h
  | .own, _, _, ⟨p, vs, ds, h1, h2, h3, h4, h5, h6, h7⟩ => ⟨p, vs, ds, h1, h2, t.keep _ _ h3 h7, h4.mono t.mono, t.no h3 h5, h6, h7⟩
  | .od, _, _, ⟨p, vs, ds, h1, h2, h3, h4, h5, h6, h7⟩ => ⟨p, vs, ds, h1, h2, t.keep _ _ h3 h7, h4.mono t.mono, t.no h3 h5, h6, h7⟩
  | .bor, _, _, ⟨p, vs, ds, h1, h2, h3, h4, h5⟩ => ⟨p, vs, ds, h1, h2, h3, h4.mono t.mono, h5⟩
  | .dk, _, _, h => h
  | .oo, _, _, ⟨p, as, dss, h1, h2, h3, h4, h5, h6, h7, h8⟩ => ⟨p, as, dss, h1, h2, t.keep _ _ h3 h7, h4.step t, t.no h3 h5, h6, h7, h8⟩
  | .ob _ _, _, _, ⟨a, dx, C, fs, ks, h1, h2, h3, h4, h5, ⟨f1, f2⟩, h7, ⟨m1, m2⟩, h9, h10⟩ => ⟨a, dx, C, fs, ks, h1, h2, t.keep _ _ h3 m1, t.keep _ _ h4 m2, h5.step t, ⟨t.no h3 f1, t.no h4 f2⟩, h7, ⟨m1, m2⟩, h9, h10⟩
theorem SR.slotAt (s : SR K e M g F H σ ρ) {i : Nat} {v : V} (h : gt ρ i ≠ none) (hσ : σ[i]? = some (some v)) : ∃ d, gt ρ i = some d ∧ SlotOk K e g F H (md M i) d v := by
  cases q : gt ρ i with
  | none => exact absurd q h
  | some d =>
    obtain ⟨u, h1, h2⟩ := s.slot i d q
    rw [hσ] at h1
    cases h1
    exact ⟨d, rfl, h2⟩
/-- lists, dicts of ours are apart -/
theorem SR.apart (s : SR K e M g F H σ ρ) (i j : Nat) (p : Addr) (hij : i ≠ j) (hi : (md M i).mine = true) (hj : (md M j).mine = true) (h1 : gt ρ i ≠ none) (h2 : gt ρ j ≠ none) (h3 : σ[i]? = some (some (.ref p))) : σ[j]? ≠ some (some (.ref p)) :=
  fun h4 => s.dis i j _ _ p hij h1 h2 h3 h4 ((foot_mine hi).mpr rfl) ((foot_mine hj).mpr rfl)
theorem SR.stepDis (s : SR K e M g F H σ ρ) (t : ∀ p o, H p = some o → ¬ g.mem p → H' p = some o) : ∀ i j v w p, i ≠ j → gt ρ i ≠ none → gt ρ j ≠ none → σ[i]? = some (some v) → σ[j]? = some (some w) → foot H' (md M i) v p → foot H' (md M j) w p → False :=
  fun i j v w p hij h1 h2 h3 h4 h5 h6 => by
    obtain ⟨d1, _, k1⟩ := s.slotAt h1 h3
    obtain ⟨d2, _, k2⟩ := s.slotAt h2 h4
    exact s.dis i j v w p hij h1 h2 h3 h4 (k1.footBack (fun a o _ ha _ hm _ _ => t a o ha hm) h5) (k2.footBack (fun a o _ ha _ hm _ _ => t a o ha hm) h6)
theorem SR.step (s : SR K e M g F H σ ρ) (t : Stp g F H F' H') : SR K e M g F' H' σ ρ :=
  ⟨t.bs s.bs, s.stp' t, s.grel, s.len, fun i d h => let ⟨v, h1, h2⟩ := s.slot i d h; ⟨v, h1, h2.step t⟩, fun i j v w p hij h1 h2 h3 h4 h5 h6 => by
    obtain ⟨d1, _, k1⟩ := s.slotAt h1 h3
    obtain ⟨d2, _, k2⟩ := s.slotAt h2 h4
    exact s.dis i j v w p hij h1 h2 h3 h4 (k1.footBack (fun a o _ ha _ hm _ _ => t.keep a o ha hm) h5) (k2.footBack (fun a o _ ha _ hm _ _ => t.keep a o ha hm) h6), s.low.trans t.mono, s.solo⟩

/-! ### what can be read: frozen data, or a list, a dict that stands now -/
def RdR (K : PySem.W.Frag) (g : Rg) (F H : Hp) (d : D) (v : V) : Prop :=
  Rp K F d v ∨ (∃ p vs ds, v = .ref p ∧ d = .list ds ∧ H p = some (.lst vs) ∧ ¬ g.mem p ∧ RpL K F ds vs) ∨ (∃ p ps ks, v = .ref p ∧ d = .dict ks ∧ H p = some (.dK ps) ∧ ¬ g.mem p ∧ RpK K F ks ps)
theorem Bs.nmem (b : Bs g F H) {p : Addr} {o : HO} (h : F p = some o) : ¬ g.mem p := fun m => by rw [b.out p m] at h; cases h
theorem RdR.lst (b : Bs g F H) {ds : List D} {v : V} (h : RdR K g F H (.list ds) v) : ∃ p vs, v = .ref p ∧ H p = some (.lst vs) ∧ ¬ g.mem p ∧ RpL K F ds vs := by
  rcases h with ⟨a, xs, e, h, r⟩ | ⟨p, vs, ds', e, e2, h, m, r⟩ | ⟨_, _, _, _, e2, _⟩
  · exact ⟨a, xs, e, b.sub _ _ h, b.nmem h, r⟩
  · cases e2; exact ⟨p, vs, e, h, m, r⟩
  · cases e2
theorem RdR.dct (b : Bs g F H) {ds : List (D × D)} {v : V} (h : RdR K g F H (.dict ds) v) : ∃ p vs, v = .ref p ∧ H p = some (.dK vs) ∧ ¬ g.mem p ∧ RpK K F ds vs := by
  rcases h with ⟨a, xs, e, h, r⟩ | ⟨_, _, _, _, e2, _⟩ | ⟨p, vs, ds', e, e2, h, m, r⟩
  · exact ⟨a, xs, e, b.sub _ _ h, b.nmem h, r⟩
  · cases e2
  · cases e2; exact ⟨p, vs, e, h, m, r⟩
def D.plainK : D → Bool
  | .list _ => false | .dict _ => false | _ => true
theorem RdR.rp {d : D} {v : V} (h : RdR K g F H d v) (p : D.plainK d = true) : Rp K F d v := by
  rcases h with h | ⟨_, _, _, _, e, _⟩ | ⟨_, _, _, _, e, _⟩
  · exact h
  · subst e; cases p
  · subst e; cases p
theorem RdR.tup {ds : List D} {v : V} (h : RdR K g F H (.tuple ds) v) : ∃ p vs, v = .ref p ∧ FrT F p vs ∧ RpL K F ds vs := h.rp rfl
theorem RdR.step (t : Stp g F H F' H') {d : D} {v : V} (h : RdR K g F H d v) : RdR K g F' H' d v := by
  rcases h with h | ⟨p, vs, ds, h1, h2, h3, h4, h5⟩ | ⟨p, vs, ds, h1, h2, h3, h4, h5⟩
  · exact .inl (h.mono t.mono)
  · exact .inr (.inl ⟨p, vs, ds, h1, h2, t.keep _ _ h3 h4, h4, h5.mono t.mono⟩)
  · exact .inr (.inr ⟨p, vs, ds, h1, h2, t.keep _ _ h3 h4, h4, h5.mono t.mono⟩)
/-- at this heap alone -/
theorem RdR.now (b : Bs g F H) {d : D} {v : V} (h : RdR K g F H d v) : Rp K H d v := by
  rcases h with h | ⟨p, vs, ds, h1, h2, h3, h4, h5⟩ | ⟨p, vs, ds, h1, h2, h3, h4, h5⟩
  · exact h.mono b.sub
  · subst h2; exact ⟨p, vs, h1, h3, h5.mono b.sub⟩
  · subst h2; exact ⟨p, vs, h1, h3, h5.mono b.sub⟩
end

/-! ### the judgements -/
abbrev DT := En → (D → Prop) → Prop
abbrev DB := En → (Bool → Prop) → Prop
abbrev DA := En → (List D → Prop) → Prop
def Mono {α : Type} (t : En → (α → Prop) → Prop) : Prop := ∀ ρ (Q Q' : α → Prop), (∀ d, Q d → Q' d) → t ρ Q → t ρ Q'

section
variable (K : PySem.W.Frag) (e : Ent) (M : List Md)
def rdE (t : DT) : TE := fun σ H Q => ∃ g F ρ, SR K e M g F H σ ρ ∧ t ρ fun d => ∀ F' H' v, Stp g F H F' H' → Rp K F' d v → Q v H'
def rdR (t : DT) : TE := fun σ H Q => ∃ g F ρ, SR K e M g F H σ ρ ∧ t ρ fun d => ∀ F' H' v, Stp g F H F' H' → RdR K g F' H' d v → Q v H'
/-- a new list -/
def rdF (t : DA) : TE := fun σ H Q => ∃ g F ρ, SR K e M g F H σ ρ ∧ t ρ fun ds => ∀ F' H' p vs, Stp g F H F' H' → H p = none → F' p = none → H' p = some (.lst vs) → RpL K F' ds vs → Q (.ref p) H'
def rdB (t : DB) : TT := fun σ H Q => ∃ g F ρ, SR K e M g F H σ ρ ∧ t ρ fun b => ∀ F' H', Stp g F H F' H' → Q b H'
def rdA (t : DA) : TA := fun σ H Q => ∃ g F ρ, SR K e M g F H σ ρ ∧ t ρ fun ds => ∀ F' H' vs, Stp g F H F' H' → RpL K F' ds vs → Q vs H'
end
structure DE (X : Cx) (e : Ent) (M : List Md) (x : Expr) (t : DT) : Prop where
  pe : PE X x (rdE X.K e M t)
  mono : Mono t
structure RE (X : Cx) (e : Ent) (M : List Md) (x : Expr) (t : DT) : Prop where
  pe : PE X x (rdR X.K e M t)
  mono : Mono t
structure FE (X : Cx) (e : Ent) (M : List Md) (x : Expr) (t : DA) : Prop where
  pe : PE X x (rdF X.K e M t)
  mono : Mono t
structure DC (X : Cx) (e : Ent) (M : List Md) (x : Expr) (t : DB) : Prop where
  pt : PT X x (rdB X.K e M t)
  mono : Mono t
structure DW (X : Cx) (e : Ent) (M : List Md) (x : Expr) (t : DB) : Prop where
  pw : PW X x (rdB X.K e M t)
  mono : Mono t
structure AE (X : Cx) (e : Ent) (M : List Md) (xs : List Expr) (t : DA) : Prop where
  pa : PA X xs (rdA X.K e M t)
  mono : Mono t

theorem pe_imp {X : Cx} {x : Expr} {t t' : TE} (h : PE X x t) (f : ∀ σ H Q, t' σ H Q → t σ H Q) : PE X x t' := ⟨fun pins s σ H Q I hw => h.run pins s σ H Q I (f σ H Q hw)⟩
theorem pt_imp {X : Cx} {x : Expr} {t t' : TT} (h : PT X x t) (f : ∀ σ H Q, t' σ H Q → t σ H Q) : PT X x t' := ⟨fun pins s σ H Q I hw => h.run pins s σ H Q I (f σ H Q hw)⟩
theorem pw_imp {X : Cx} {x : Expr} {t t' : TT} (h : PW X x t) (f : ∀ σ H Q, t' σ H Q → t σ H Q) : PW X x t' := ⟨fun wh pins s σ H Q I hw => h.run wh pins s σ H Q I (f σ H Q hw)⟩
theorem pa_imp {X : Cx} {x : List Expr} {t t' : TA} (h : PA X x t) (f : ∀ σ H Q, t' σ H Q → t σ H Q) : PA X x t' := ⟨fun pos pins s σ H Q I hw => h.run pos pins s σ H Q I (f σ H Q hw)⟩
theorem ps_imp {X : Cx} {x : Stmt} {t t' : TS} (h : PS X x t) (f : ∀ D σ H, t' D σ H → t D σ H) : PS X x t' := ⟨fun pins s σ H D I hw => h.run pins s σ H D I (f D σ H hw)⟩
theorem pss_imp {X : Cx} {x : List Stmt} {t t' : TS} (h : PSs X x t) (f : ∀ D σ H, t' D σ H → t D σ H) : PSs X x t' := ⟨fun pins s σ H D I hw => h.run pins s σ H D I (f D σ H hw)⟩

section
variable {X : Cx} {e : Ent} {M : List Md} {x a b c : Expr} {t ta tb tc : DT} {pos : Pos}
theorem DE.re (h : DE X e M x t) : RE X e M x t :=
  ⟨pe_imp h.pe fun σ H Q ⟨g, F, ρ, sr, q⟩ => ⟨g, F, ρ, sr, h.mono ρ _ _ (fun d k F' H' v s r => k F' H' v s (.inl r)) q⟩, h.mono⟩
/-- a new list, frozen -/
def tFz (t : DA) : DT := fun ρ Q => t ρ fun ds => Q (.list ds)
theorem FE.de {t : DA} (h : FE X e M x t) : DE X e M x (tFz t) :=
  ⟨pe_imp h.pe fun σ H Q ⟨g, F, ρ, sr, q⟩ => ⟨g, F, ρ, sr, h.mono ρ _ _ (fun ds k F' H' p vs s n f hp r => k (upd F' p (.lst vs)) H' (.ref p) (s.freeze n f hp) ⟨p, vs, rfl, upd_same, r.mono (.new f)⟩) q⟩,
    fun ρ Q Q' f q => h.mono ρ _ _ (fun ds k => f _ k) q⟩

/-! ### names, constants -/
def tV (i : Nat) : DT := fun ρ Q => match gt ρ i with | some d => Q d | none => False
theorem tV_mono (i : Nat) : Mono (tV i) := fun ρ Q Q' f h => by
  unfold tV at h ⊢
  split at h
  · exact f _ h
  · exact h.elim
theorem de_var {i : Nat} {y : Str} (hN : X.N[i]? = some y) (hv : Vis X.env.scope y) (hm : md M i = .val := by rfl) (hd : (y == ("__debug__" : Str)) = false := by decide) (hcd : (y == ("__classdict__" : Str)) = false := by decide) :
    DE X e M (.Name y pos) (tV i) :=
  ⟨pe_imp (pe_var hN hv hd hcd) fun σ H Q ⟨g, F, ρ, sr, q⟩ => by
    unfold tV at q
    split at q
    · rename_i d hd
      obtain ⟨v, h1, h2⟩ := sr.slot i d hd
      rw [hm] at h2
      exact ⟨v, h1, q F H v sr.bs.refl h2⟩
    · exact q.elim, tV_mono i⟩
theorem SR.rd {K : PySem.W.Frag} {g : Rg} {F H : Hp} {σ : L2.St} {ρ : En} (s : SR K e M g F H σ ρ) {i : Nat} {d : D} {v : V} (h : SlotOk K e g F H (md M i) d v) (hm : md M i ≠ .dk) (hm2 : (md M i).opq = false) : RdR K g F H d v := by
  cases q : md M i with
  | val => rw [q] at h; exact .inl h
  | own =>
    rw [q] at h
    obtain ⟨p, vs, ds, h1, h2, h3, h4, h5, h6, h7⟩ := h
    exact .inr (.inl ⟨p, vs, ds, h1, h2, h3, h7, h4⟩)
  | od =>
    rw [q] at h
    obtain ⟨p, vs, ds, h1, h2, h3, h4, h5, h6, h7⟩ := h
    exact .inr (.inr ⟨p, vs, ds, h1, h2, h3, h7, h4⟩)
  | bor =>
    rw [q] at h
    obtain ⟨p, vs, ds, h1, h2, h3, h4, h5⟩ := h
    exact .inr (.inl ⟨p, vs, ds, h1, h2, s.stp.keep _ _ h3 h5, s.keepB h3 h5, h4⟩)
  | dk => exact absurd q hm
  | ex => rw [q] at hm2; cases hm2
  | oo => rw [q] at hm2; cases hm2
  | ob _ _ => rw [q] at hm2; cases hm2
theorem re_var {i : Nat} {y : Str} (hN : X.N[i]? = some y) (hv : Vis X.env.scope y) (hm : md M i ≠ .dk := by decide) (hm2 : (md M i).opq = false := by decide) (hd : (y == ("__debug__" : Str)) = false := by decide) (hcd : (y == ("__classdict__" : Str)) = false := by decide) :
    RE X e M (.Name y pos) (tV i) :=
  ⟨pe_imp (pe_var hN hv hd hcd) fun σ H Q ⟨g, F, ρ, sr, q⟩ => by
    unfold tV at q
    split at q
    · rename_i d hd
      obtain ⟨v, h1, h2⟩ := sr.slot i d hd
      exact ⟨v, h1, q F H v sr.bs.refl (sr.rd h2 hm hm2)⟩
    · exact q.elim, tV_mono i⟩
def tK (d : D) : DT := fun _ Q => Q d
theorem tK_mono (d : D) : Mono (tK d) := fun _ _ _ f h => f _ h
theorem de_con {v : V} {d : D} (h : PE X x (tC v)) (r : ∀ F, Rp X.K F d v) : DE X e M x (tK d) :=
  ⟨pe_imp h fun σ H Q ⟨g, F, ρ, sr, q⟩ => q F H v sr.bs.refl (r F), tK_mono d⟩
theorem de_int {i : Int} {j : Nat} : DE X e M (.Constant (.int i) j pos) (tK (.int i)) := de_con pe_int fun _ => rfl
theorem de_bl {i : Bool} {j : Nat} : DE X e M (.Constant (.bool i) j pos) (tK (.bool i)) := de_con pe_bl fun _ => rfl
theorem de_non {j : Nat} : DE X e M (.Constant .none j pos) (tK .none) := de_con pe_non fun _ => rfl
theorem de_str {i : Str} {j : Nat} : DE X e M (.Constant (.str i) j pos) (tK (.str i)) := de_con pe_str fun _ => rfl
theorem de_gint {y : Str} {i : Int} {u : Value} (hg : Gl X y) (hm : X.mg y = some u) (r : RelV (.int i) u) (hd : (y == ("__debug__" : Str)) = false := by decide) : DE X e M (.Name y pos) (tK (.int i)) := de_con (pe_glob hg hm r hd) fun _ => rfl

/-! ### two operands -/
abbrev K2 := D → D → (D → Prop) → Prop
def t2 (k : K2) (ta tb : DT) : DT := fun ρ Q => ta ρ fun x => tb ρ fun y => k x y Q
def Mono2 (k : K2) : Prop := ∀ x y (Q Q' : D → Prop), (∀ d, Q d → Q' d) → k x y Q → k x y Q'
theorem t2_mono {k : K2} (h : Mono2 k) (ha : Mono ta) (hb : Mono tb) : Mono (t2 k ta tb) := fun ρ Q Q' f q =>
  ha ρ _ _ (fun x q => hb ρ _ _ (fun y q => h x y _ _ f q) q) q
def Says2 (X : Cx) (r : R2) (k : K2) : Prop := ∀ g F H dx dy x y (Qv : VK) (q : D → Prop), Bs g F H → RdR X.K g F H dx x → RdR X.K g F H dy y → k dx dy q →
  (∀ d F' H' v, q d → Stp g F H F' H' → Rp X.K F' d v → Qv v H') → r x y H Qv
theorem op2 {r : R2} {k : K2} (ha : RE X e M a ta) (hb : RE X e M b tb) (hs : Says2 X r k) : ∀ σ H Q, rdE X.K e M (t2 k ta tb) σ H Q → tOp r (rdR X.K e M ta) (rdR X.K e M tb) σ H Q := fun σ H Q ⟨g, F, ρ, sr, q⟩ =>
  ⟨g, F, ρ, sr, ha.mono ρ _ _ (fun dx hx F1 H1 x s1 rx => ⟨g, F1, ρ, sr.step s1, hb.mono ρ _ _ (fun dy hy F2 H2 y s2 ry =>
    hs g F2 H2 dx dy x y Q _ (s2.bs (s1.bs sr.bs)) (rx.step s2) ry hy fun d F' H' v q s3 rv => q F' H' v ((s1.trans s2).trans s3) rv) hx⟩) q⟩
theorem de_op {op : Operator} {r : R2} {k : K2} (ho : OpR X (binaryOp op) r) (hs : Says2 X r k) (hk : Mono2 k) (ha : RE X e M a ta) (hb : RE X e M b tb) : DE X e M (.BinOp a op b pos) (t2 k ta tb) :=
  ⟨pe_imp (pe_op ho ha.pe hb.pe) (op2 ha hb hs), t2_mono hk ha.mono hb.mono⟩
theorem de_cmp {op : CmpOp} {r : R2} {k : K2} (ho : OpR X (compareOp op) r) (hs : Says2 X r k) (hk : Mono2 k) (ha : RE X e M a ta) (hb : RE X e M b tb) (hm : behindInMarks op b = false) : DE X e M (.Compare a [op] [b] pos) (t2 k ta tb) :=
  ⟨pe_imp (pe_cmpR ho ha.pe hb.pe hm) (op2 ha hb hs), t2_mono hk ha.mono hb.mono⟩
theorem de_ix {r : R2} {k : K2} (hr : IxR X r) (hs : Says2 X r k) (hk : Mono2 k) (ha : RE X e M a ta) (hb : RE X e M b tb) (hp : PlainIx b) : DE X e M (.Subscript a b pos) (t2 k ta tb) :=
  ⟨pe_imp (pe_ix hr ha.pe hb.pe hp) (op2 ha hb hs), t2_mono hk ha.mono hb.mono⟩
theorem opOr {f : Value → Value → Sem Value} {r r' : R2} (h : OpR X f r) (h' : OpR X f r') : OpR X f fun x y H Q => r x y H Q ∨ r' x y H Q := by
  intro pins s σ H x y v u Q I rx ry q
  rcases q with q | q
  · exact h pins s σ H x y v u Q I rx ry q
  · exact h' pins s σ H x y v u Q I rx ry q
end
end PP

set_option Elab.async false
set_option linter.all false
set_option maxRecDepth 100000
set_option maxHeartbeats 4000000
namespace PP
open PySem PySem.Spec PyProof.Rows L2

section
variable {X : Cx} {e : Ent} {M : List Md} {x a b c : Expr} {t ta tb tc : DT} {pos : Pos}

/-! ### ints -/
theorem RdR.int {K : PySem.W.Frag} {g : Rg} {F H : Hp} {i : Int} {v : V} (h : RdR K g F H (.int i) v) : v = .int i := h.rp rfl
theorem RdR.bool {K : PySem.W.Frag} {g : Rg} {F H : Hp} {i : Bool} {v : V} (h : RdR K g F H (.bool i) v) : v = .bl i := h.rp rfl
theorem RdR.str {K : PySem.W.Frag} {g : Rg} {F H : Hp} {i : Str} {v : V} (h : RdR K g F H (.str i) v) : v = .str i := h.rp rfl
theorem RdR.non {K : PySem.W.Frag} {g : Rg} {F H : Hp} {v : V} (h : RdR K g F H .none v) : v = .non := h.rp rfl

def kI (C : Int → Int → Prop) (f : Int → Int → D) : K2 := fun x y Q => match x, y with | .int i, .int j => C i j ∧ Q (f i j) | _, _ => False
theorem kI_mono {C f} : Mono2 (kI C f) := fun x y Q Q' h q => by
  unfold kI at q ⊢
  split at q
  · exact ⟨q.1, h _ q.2⟩
  · exact q.elim
def NoC : Int → Int → Prop := fun _ _ => True
theorem says_I {C : Int → Int → Prop} {f : Int → Int → D} {f' : Int → Int → V} (r : ∀ i j F, Rp X.K F (f i j) (f' i j)) : Says2 X (rI C f') (kI C f) := by
  intro g F H dx dy x y Qv q bs rx ry hk k
  unfold kI at hk
  split at hk
  · exact ⟨_, _, rx.int, ry.int, hk.1, k _ F H _ hk.2 bs.refl (r _ _ F)⟩
  · exact hk.elim
theorem says_I0 {f : Int → Int → D} {f' : Int → Int → V} (r : ∀ i j F, Rp X.K F (f i j) (f' i j)) : Says2 X (rI0 f') (kI NoC f) := by
  intro g F H dx dy x y Qv q bs rx ry hk k
  unfold kI at hk
  split at hk
  · exact ⟨_, _, rx.int, ry.int, k _ F H _ hk.2 bs.refl (r _ _ F)⟩
  · exact hk.elim
theorem de_sub (ha : RE X e M a ta) (hb : RE X e M b tb) : DE X e M (.BinOp a .Sub b pos) (t2 (kI NoC fun i j => .int (i - j)) ta tb) := de_op op_sub (says_I0 fun _ _ _ => rfl) kI_mono ha hb
theorem de_mod (ha : RE X e M a ta) (hb : RE X e M b tb) : DE X e M (.BinOp a .Mod b pos) (t2 (kI (fun _ j => 0 < j) fun i j => .int (i % j)) ta tb) := de_op op_mod (says_I fun _ _ _ => rfl) kI_mono ha hb
theorem de_fdiv (ha : RE X e M a ta) (hb : RE X e M b tb) : DE X e M (.BinOp a .FloorDiv b pos) (t2 (kI CDivW fun i j => .int (i / j)) ta tb) := de_op op_fdivW (says_I fun _ _ _ => rfl) kI_mono ha hb
theorem de_pow (ha : RE X e M a ta) (hb : RE X e M b tb) : DE X e M (.BinOp a .Pow b pos) (t2 (kI CPow fun i j => .int (i ^ j.toNat)) ta tb) := de_op op_pow (says_I fun _ _ _ => rfl) kI_mono ha hb

/-! ### x * y: ints, a list or a tuple times an int -/
def repD (k : Int) (xs : List D) : List D := (List.replicate k.toNat xs).flatten
def kMul : K2 := fun x y Q => match x, y with
  | .int i, .int j => CMulW i j ∧ Q (.int (i * j))
  | .list xs, .int k => (-(2 ^ 63) ≤ k ∧ k < 2 ^ 63 ∧ xs.length * k.toNat ≤ sizeLine) ∧ Q (.list (repD k xs))
  | _, _ => False
theorem RpL.rep {K : PySem.W.Frag} {H : Hp} {ds : List D} {vs : List V} (r : RpL K H ds vs) : ∀ k : Nat, RpL K H (List.replicate k ds).flatten (List.replicate k vs).flatten
  | 0 => rfl
  | k + 1 => by
    rw [List.replicate_succ, List.replicate_succ, List.flatten_cons, List.flatten_cons]
    exact r.append (RpL.rep r k)
theorem kMul_mono : Mono2 kMul := fun x y Q Q' h q => by
  unfold kMul at q ⊢
  split at q
  · exact ⟨q.1, h _ q.2⟩
  · exact ⟨q.1, h _ q.2⟩
  · exact q.elim
theorem says_mul : Says2 X (fun x y H Q => rI CMulW (fun i j => .int (i * j)) x y H Q ∨ rRep x y H Q) kMul := by
  intro g F H dx dy x y Qv q bs rx ry hk k
  unfold kMul at hk
  split at hk
  · exact .inl ⟨_, _, rx.int, ry.int, hk.1, k _ F H _ hk.2 bs.refl rfl⟩
  · obtain ⟨p, vs, rfl, hp, m, r⟩ := rx.lst bs
    obtain ⟨⟨h1, h2, h3⟩, hk⟩ := hk
    refine .inr ⟨p, _, vs, rfl, ry.int, hp, h1, h2, by rw [r.length]; exact h3, fun p' hn => k _ (upd F p' (.lst (List.replicate _ vs).flatten)) _ _ hk (bs.alloc hn _) ⟨p', _, rfl, upd_same, (r.rep _).mono (.new (bs.sub.none hn))⟩⟩
  · exact hk.elim
theorem de_mul (ha : RE X e M a ta) (hb : RE X e M b tb) : DE X e M (.BinOp a .Mult b pos) (t2 kMul ta tb) := de_op (opOr op_mulW op_rep) says_mul kMul_mono ha hb

/-! ### x + y -/
def kAdd : K2 := fun x y Q => match x, y with
  | .int i, .int j => Q (.int (i + j))
  | .list xs, .list ys => xs.length + ys.length ≤ sizeLine ∧ Q (.list (xs ++ ys))
  | .tuple xs, .tuple ys => xs.length + ys.length ≤ sizeLine ∧ Q (.tuple (xs ++ ys))
  | .str xs, .str ys => xs.length + ys.length ≤ sizeLine ∧ Q (.str (xs ++ ys))
  | _, _ => False
theorem kAdd_mono : Mono2 kAdd := fun x y Q Q' h q => by
  unfold kAdd at q ⊢
  split at q
  · exact h _ q
  · exact ⟨q.1, h _ q.2⟩
  · exact ⟨q.1, h _ q.2⟩
  · exact ⟨q.1, h _ q.2⟩
  · exact q.elim
theorem RpL.nil_iff {K : PySem.W.Frag} {H : Hp} {ds : List D} {vs : List V} (r : RpL K H ds vs) : vs = [] → ds = [] := fun h => by
  have := r.length
  subst h
  exact List.eq_nil_of_length_eq_zero this.symm
theorem says_add : Says2 X (fun x y H Q => rI0 (fun i j => .int (i + j)) x y H Q ∨ rCat x y H Q ∨ rCatP X.K x y H Q ∨ (∃ i j, x = .str i ∧ y = .str j ∧ i.length + j.length ≤ sizeLine ∧ Q (.str (i ++ j)) H)) kAdd := by
  intro g F H dx dy x y Qv q bs rx ry hk k
  unfold kAdd at hk
  split at hk
  · exact .inl ⟨_, _, rx.int, ry.int, k _ F H _ hk bs.refl rfl⟩
  · obtain ⟨p, vs, rfl, hp, m, r⟩ := rx.lst bs
    obtain ⟨p2, vs2, rfl, hp2, m2, r2⟩ := ry.lst bs
    refine .inr (.inl ⟨p, p2, vs, vs2, rfl, rfl, hp, hp2, by rw [r.length, r2.length]; exact hk.1, fun p' hn => k _ (upd F p' _) _ _ hk.2 (bs.alloc hn _) ⟨p', _, rfl, upd_same, (r.append r2).mono (.new (bs.sub.none hn))⟩⟩)
  · obtain ⟨p, vs, rfl, hp, r⟩ := rx.tup
    obtain ⟨p2, vs2, rfl, hp2, r2⟩ := ry.tup
    refine .inr (.inr (.inl ⟨p, p2, vs, vs2, rfl, rfl, bs.sub.sqT hp, bs.sub.sqT hp2, by rw [r.length, r2.length]; exact hk.1, fun z => ?_, fun _ z => ?_, fun _ _ p' o hn hc hd => ?_⟩))
    · have z' := r.nil_iff z
      subst z'
      exact k _ F H _ hk.2 bs.refl ⟨p2, vs2, rfl, hp2, r2⟩
    · have z' := r2.nil_iff z
      subst z'
      refine k _ F H _ hk.2 bs.refl ⟨p, vs, rfl, hp, ?_⟩
      rw [List.append_nil]; exact r
    · exact k _ (upd F p' _) _ _ hk.2 (bs.alloc hn _) ⟨p', _, rfl, FrT.new hc hd, (r.append r2).mono (.new (bs.sub.none hn))⟩
  · exact .inr (.inr (.inr ⟨_, _, rx.str, ry.str, hk.1, k _ F H _ hk.2 bs.refl rfl⟩))
  · exact hk.elim
theorem de_add (ha : RE X e M a ta) (hb : RE X e M b tb) : DE X e M (.BinOp a .Add b pos) (t2 kAdd ta tb) := de_op (opOr op_add (opOr op_cat (opOr op_catP op_add_str))) says_add kAdd_mono ha hb

/-! ### - x -/
def t1 (k : D → (D → Prop) → Prop) (ta : DT) : DT := fun ρ Q => ta ρ fun x => k x Q
def Mono1 (k : D → (D → Prop) → Prop) : Prop := ∀ x (Q Q' : D → Prop), (∀ d, Q d → Q' d) → k x Q → k x Q'
theorem t1_mono {k} (h : Mono1 k) (ha : Mono ta) : Mono (t1 k ta) := fun ρ Q Q' f q => ha ρ _ _ (fun x q => h x _ _ f q) q
def kNeg : D → (D → Prop) → Prop := fun x Q => match x with | .int i => Q (.int (-i)) | _ => False
theorem de_neg (ha : RE X e M a ta) : DE X e M (.UnaryOp .USub a pos) (t1 kNeg ta) :=
  ⟨pe_imp (pe_un un_neg ha.pe) fun σ H Q ⟨g, F, ρ, sr, q⟩ => ⟨g, F, ρ, sr, ha.mono ρ _ _ (fun d hd F1 H1 v s rv => by
    unfold kNeg at hd
    split at hd
    · exact ⟨_, rv.int, hd F1 H1 _ s rfl⟩
    · exact hd.elim) q⟩, t1_mono (fun x Q Q' f q => by unfold kNeg at q ⊢; split at q; exact f _ q; exact q.elim) ha.mono⟩

/-! ### comparisons of ints -/
theorem nm {op : CmpOp} {b : Expr} (h : op ≠ .In) (h2 : op ≠ .NotIn) : behindInMarks op b = false := nobehind b h h2
abbrev kLt : K2 := kI NoC fun i j => .bool (decide (i < j))
abbrev kLe : K2 := kI NoC fun i j => .bool (decide (i ≤ j))
abbrev kGt : K2 := kI NoC fun i j => .bool (decide (j < i))
abbrev kGe : K2 := kI NoC fun i j => .bool (decide (j ≤ i))
theorem de_lt (ha : RE X e M a ta) (hb : RE X e M b tb) : DE X e M (.Compare a [.Lt] [b] pos) (t2 kLt ta tb) := de_cmp op_lt (says_I0 fun _ _ _ => rfl) kI_mono ha hb (nm (by decide) (by decide))
theorem de_le (ha : RE X e M a ta) (hb : RE X e M b tb) : DE X e M (.Compare a [.LtE] [b] pos) (t2 kLe ta tb) := de_cmp op_le (says_I0 fun _ _ _ => rfl) kI_mono ha hb (nm (by decide) (by decide))
theorem de_gt (ha : RE X e M a ta) (hb : RE X e M b tb) : DE X e M (.Compare a [.Gt] [b] pos) (t2 kGt ta tb) := de_cmp op_gt (says_I0 fun _ _ _ => rfl) kI_mono ha hb (nm (by decide) (by decide))
theorem de_ge (ha : RE X e M a ta) (hb : RE X e M b tb) : DE X e M (.Compare a [.GtE] [b] pos) (t2 kGe ta tb) := de_cmp op_ge (says_I0 fun _ _ _ => rfl) kI_mono ha hb (nm (by decide) (by decide))

/-! ### == and != of any data without dicts -/
mutual
theorem Rp.reads {pins : List (Addr × Obj)} {σ : L2.St} {H : Hp} {s : Shared} (I : Inv X pins σ H s) : ∀ (d : D) (v : V) (u : Value), Rp X.K H d v → RelV v u → d.hasDict = false → ∃ as, Reads s.heap u d as
  | .none, _, u, h, r, _ => by
    have h : _ = V.non := h
    subst h
    cases (show u = Value.none from r)
    exact ⟨_, Reads.none⟩
  | .bool b, _, u, h, r, _ => by
    have h : _ = V.bl b := h
    subst h
    cases (show u = Value.bool b from r)
    exact ⟨_, Reads.bool b⟩
  | .int i, _, u, h, r, _ => by
    have h : _ = V.int i := h
    subst h
    obtain ⟨t, rfl⟩ := (show ∃ t, u = Value.int i t from r)
    exact ⟨_, Reads.int i t⟩
  | .str x, _, u, h, r, _ => by
    have h : _ = V.str x := h
    subst h
    obtain ⟨t, rfl⟩ := (show ∃ t, u = Value.str x t from r)
    exact ⟨_, Reads.str x t⟩
  | .list ds, _, u, ⟨a, xs, e1, h, q⟩, r, n => by
    subst e1
    cases (show u = Value.ref a from r)
    obtain ⟨its, rv, ⟨o, k, ho, hc, _, hd⟩, _⟩ := I.list (.inl (.inl h))
    obtain ⟨as, hr⟩ := Rp.readsAll I ds _ its q rv (by simpa only [PyData.hasDict] using n)
    exact ⟨_, Reads.list ho hc hd hr⟩
  | .tuple ds, _, u, ⟨a, xs, e1, h, q⟩, r, n => by
    subst e1
    cases (show u = Value.ref a from r)
    obtain ⟨its, rv, ⟨o, ho, hc, k, hd⟩, _⟩ := I.tuple (h.sq (K := X.K))
    obtain ⟨as, hr⟩ := Rp.readsAll I ds _ its q rv (by simpa only [PyData.hasDict] using n)
    exact ⟨_, Reads.tuple ho hc hd hr⟩
  | .dict _, _, _, _, _, n => by simp [PyData.hasDict] at n
theorem Rp.readsAll {pins : List (Addr × Obj)} {σ : L2.St} {H : Hp} {s : Shared} (I : Inv X pins σ H s) : ∀ (ds : List D) (vs : List V) (us : List Value), RpL X.K H ds vs → Vals vs us → PyData.hasDictAll ds = false → ∃ as, ReadsAll s.heap us ds as
  | [], _, _, h, r, _ => by
    have h : _ = [] := h
    subst h
    cases r
    exact ⟨_, ReadsAll.nil⟩
  | d :: ds, _, _, ⟨x, xs, e1, h1, h2⟩, r, n => by
    subst e1
    have n' : d.hasDict = false ∧ PyData.hasDictAll ds = false := by simpa only [PyData.hasDictAll, Bool.or_eq_false_iff] using n
    cases r with
    | cons r1 r2 =>
      obtain ⟨as, q1⟩ := Rp.reads I d _ _ h1 r1 n'.1
      obtain ⟨bs, q2⟩ := Rp.readsAll I ds _ _ h2 r2 n'.2
      exact ⟨_, ReadsAll.cons q1 q2⟩
end
theorem shaped_noDict {d : D} (h : SeqAt.shaped d = true) : d.hasDict = false := by
  have h : (d.canLay0 && decide (d.depth ≤ 64)) = true := h
  rw [Bool.and_eq_true] at h
  exact PyData.hasDict_of_canLay d h.1
def rEqX (K : PySem.W.Frag) (f : Bool → Bool) : R2 := fun x y H Q => ∃ d d', Rp K H d x ∧ Rp K H d' y ∧ SeqAt.shaped d = true ∧ SeqAt.shaped d' = true ∧ Q (.bl (f (PyData.eqv d d'))) H
theorem op_eqX (hu : X.A.units + 64 < cLine) : OpR X (compareOp .Eq) (rEqX X.K id) := by
  intro pins s σ H x y v u Q I rx ry h
  obtain ⟨d, d', hd, he, sd, se, q⟩ := h
  obtain ⟨as, r1⟩ := Rp.reads I d x v hd rx (shaped_noDict sd)
  obtain ⟨bs, r2⟩ := Rp.reads I d' y u he ry (shaped_noDict se)
  exact SeqAt.compareEq_shaped r1 r2 sd se hu ⟨.bl _, H, I, rfl, q⟩
theorem op_neX (hu : X.A.units + 64 < cLine) : OpR X (compareOp .NotEq) (rEqX X.K not) := by
  intro pins s σ H x y v u Q I rx ry h
  obtain ⟨d, d', hd, he, sd, se, q⟩ := h
  obtain ⟨as, r1⟩ := Rp.reads I d x v hd rx (shaped_noDict sd)
  obtain ⟨bs, r2⟩ := Rp.reads I d' y u he ry (shaped_noDict se)
  exact SeqAt.compareNe_shaped r1 r2 sd se hu ⟨.bl _, H, I, rfl, q⟩
def kEq (f : Bool → Bool) : K2 := fun x y Q => (SeqAt.shaped x = true ∧ SeqAt.shaped y = true) ∧ Q (.bool (f (PyData.eqv x y)))
theorem kEq_mono {f} : Mono2 (kEq f) := fun x y Q Q' h q => ⟨q.1, h _ q.2⟩
theorem says_eq {f} : Says2 X (rEqX X.K f) (kEq f) := fun g F H dx dy x y Qv q bs rx ry hk k => ⟨dx, dy, rx.now bs, ry.now bs, hk.1.1, hk.1.2, k _ F H _ hk.2 bs.refl rfl⟩
theorem de_eq (hu : X.A.units + 64 < cLine) (ha : RE X e M a ta) (hb : RE X e M b tb) : DE X e M (.Compare a [.Eq] [b] pos) (t2 (kEq id) ta tb) := de_cmp (op_eqX hu) says_eq kEq_mono ha hb (nm (by decide) (by decide))
theorem de_ne (hu : X.A.units + 64 < cLine) (ha : RE X e M a ta) (hb : RE X e M b tb) : DE X e M (.Compare a [.NotEq] [b] pos) (t2 (kEq not) ta tb) := de_cmp (op_neX hu) says_eq kEq_mono ha hb (nm (by decide) (by decide))
/-- is None -/
def kIsN (f : Bool → Bool) : D → (D → Prop) → Prop := fun x Q => Q (.bool (f (match x with | .none => true | _ => false)))
theorem rd_non {K : PySem.W.Frag} {g : Rg} {F H : Hp} : ∀ {d : D} {v : V}, RdR K g F H d v → decide (v = .non) = (match d with | .none => true | _ => false)
  | .none, _, h => by rw [h.non]; rfl
  | .bool _, _, h => by rw [h.bool]; rfl
  | .int _, _, h => by rw [h.int]; rfl
  | .str _, _, h => by rw [h.str]; rfl
  | .list _, _, h => by rcases h with ⟨a, xs, rfl, _⟩ | ⟨p, vs, ds, rfl, _⟩ | ⟨p, vs, ds, rfl, _⟩ <;> rfl
  | .tuple _, _, h => by obtain ⟨p, vs, rfl, _⟩ := h.tup; rfl
  | .dict _, _, h => by rcases h with ⟨a, xs, rfl, _⟩ | ⟨p, vs, ds, rfl, _⟩ | ⟨p, vs, ds, rfl, _⟩ <;> rfl
theorem kIsN_mono {f} : Mono1 (kIsN f) := fun x Q Q' h q => h _ q
theorem de_isN {j : Nat} {p2 : Pos} (ha : RE X e M a ta) : DE X e M (.Compare a [.Is] [.Constant .none j p2] pos) (t1 (kIsN id) ta) :=
  ⟨pe_imp (pe_cmp (pc_isN ha.pe)) fun σ H Q ⟨g, F, ρ, sr, q⟩ => ⟨g, F, ρ, sr, ha.mono ρ _ _ (fun d hd F1 H1 v s rv => by show Q (V.bl (decide (v = V.non))) H1; rw [rd_non rv]; exact hd F1 H1 _ s rfl) q⟩, t1_mono kIsN_mono ha.mono⟩
theorem de_notN {j : Nat} {p2 : Pos} (ha : RE X e M a ta) : DE X e M (.Compare a [.IsNot] [.Constant .none j p2] pos) (t1 (kIsN not) ta) :=
  ⟨pe_imp (pe_cmp (pc_notN ha.pe)) fun σ H Q ⟨g, F, ρ, sr, q⟩ => ⟨g, F, ρ, sr, ha.mono ρ _ _ (fun d hd F1 H1 v s rv => by show Q (V.bl (!decide (v = V.non))) H1; rw [rd_non rv]; exact hd F1 H1 _ s rfl) q⟩, t1_mono kIsN_mono ha.mono⟩
end
end PP

set_option Elab.async false
set_option linter.all false
set_option maxRecDepth 100000
set_option maxHeartbeats 4000000
namespace PP
open PySem PySem.Spec PyProof.Rows L2

section
variable {X : Cx} {e : Ent} {M : List Md} {x a b c : Expr} {xs : List Expr} {t ta tb tc : DT} {pos : Pos}

/-! ### x[i] -/
def kIx : K2 := fun x y Q => match x, y with
  | .list xs, .int i => (match atI xs i with | some d => Q d | none => False)
  | .tuple xs, .int i => (match atI xs i with | some d => Q d | none => False)
  | _, _ => False
theorem kIx_mono : Mono2 kIx := fun x y Q Q' h q => by
  unfold kIx at q ⊢
  split at q
  · split at q
    · exact h _ q
    · exact q.elim
  · split at q
    · exact h _ q
    · exact q.elim
  · exact q.elim
theorem RpL.atI {K : PySem.W.Frag} {H : Hp} {ds : List D} {vs : List V} {i : Int} {d : D} (r : RpL K H ds vs) (h : L2.atI ds i = some d) : ∃ v, L2.atI vs i = some v ∧ Rp K H d v := by
  unfold L2.atI at h ⊢
  rw [r.length]
  cases q : ixN ds.length i with
  | none => rw [q] at h; cases h
  | some j =>
    rw [q] at h
    exact r.get (i := j) h
theorem says_ix : Says2 X (rIx X.K) kIx := by
  intro g F H dx dy x y Qv q bs rx ry hk k
  unfold kIx at hk
  split at hk
  · split at hk
    · rename_i d hd
      obtain ⟨p, vs, rfl, hp, m, r⟩ := rx.lst bs
      obtain ⟨v, hv, rv⟩ := r.atI hd
      exact .inl ⟨p, vs, _, v, rfl, ry.int, .inl (.inl hp), hv, k _ F H v hk bs.refl rv⟩
    · exact hk.elim
  · split at hk
    · rename_i d hd
      obtain ⟨p, vs, rfl, hp, r⟩ := rx.tup
      obtain ⟨v, hv, rv⟩ := r.atI hd
      exact .inr (.inl ⟨p, vs, _, v, rfl, ry.int, bs.sub.sqT hp, hv, k _ F H v hk bs.refl rv⟩)
    · exact hk.elim
  · exact hk.elim
theorem de_item (ha : RE X e M a ta) (hb : RE X e M b tb) (hp : PlainIx b) : DE X e M (.Subscript a b pos) (t2 kIx ta tb) := de_ix ix_seq says_ix kIx_mono ha hb hp

/-! ### x in xs -/
def flatD : D → Bool
  | .none => true | .bool _ => true | .int _ => true | .str _ => true | _ => false
def vOf : D → V
  | .none => .non | .bool b => .bl b | .int i => .int i | .str x => .str x | _ => .non
theorem Rp.vOf {K : PySem.W.Frag} {H : Hp} : ∀ {d : D} {v : V}, Rp K H d v → flatD d = true → v = vOf d ∧ flatV v = true
  | .none, v, h, _ => by have h : v = .non := h; subst h; exact ⟨rfl, rfl⟩
  | .bool _, v, h, _ => by have h : v = .bl _ := h; subst h; exact ⟨rfl, rfl⟩
  | .int _, v, h, _ => by have h : v = .int _ := h; subst h; exact ⟨rfl, rfl⟩
  | .str _, v, h, _ => by have h : v = .str _ := h; subst h; exact ⟨rfl, rfl⟩
  | .list _, _, _, h => by cases h
  | .tuple _, _, _, h => by cases h
  | .dict _, _, _, h => by cases h
theorem RpL.flat {K : PySem.W.Frag} {H : Hp} : ∀ {ds : List D} {vs : List V}, RpL K H ds vs → ds.all flatD = true → vs = ds.map vOf ∧ vs.all flatV = true
  | [], _, h, _ => by have h : _ = [] := h; subst h; exact ⟨rfl, rfl⟩
  | d :: ds, _, ⟨x, xs, e, h, t⟩, q => by
    subst e
    rw [List.all_cons, Bool.and_eq_true] at q
    obtain ⟨h1, h2⟩ := h.vOf q.1
    obtain ⟨h3, h4⟩ := RpL.flat t q.2
    exact ⟨by rw [List.map_cons, ← h1, ← h3], by rw [List.all_cons, h2, h4]; rfl⟩
def memD (x : D) (xs : List D) : Bool := inV (vOf x) (xs.map vOf)
def kIn (f : Bool → Bool) : K2 := fun x y Q => match y with
  | .list ys => (flatD x = true ∧ ys.all flatD = true) ∧ Q (.bool (f (memD x ys)))
  | .tuple ys => (flatD x = true ∧ ys.all flatD = true) ∧ Q (.bool (f (memD x ys)))
  | _ => False
theorem kIn_mono {f} : Mono2 (kIn f) := fun x y Q Q' h q => by
  unfold kIn at q ⊢
  split at q
  · exact ⟨q.1, h _ q.2⟩
  · exact ⟨q.1, h _ q.2⟩
  · exact q.elim
theorem flat_plain {d : D} (h : flatD d = true) : D.plainK d = true := by cases d <;> first | rfl | cases h
theorem says_in {neg : Bool} {f : Bool → Bool} (hf : ∀ b, (if neg then !b else b) = f b) : Says2 X (rIn X.K neg) (kIn f) := by
  intro g F H dx dy x y Qv q bs rx ry hk k
  unfold kIn at hk
  split at hk
  · obtain ⟨p, vs, rfl, hp, m, r⟩ := ry.lst bs
    obtain ⟨e1, e2⟩ := (rx.rp (flat_plain hk.1.1)).vOf hk.1.1
    obtain ⟨e3, e4⟩ := r.flat hk.1.2
    refine ⟨p, vs, rfl, .inl (.inl (.inl hp)), e2, e4, ?_⟩
    rw [hf, e1, e3]
    exact k _ F H _ hk.2 bs.refl rfl
  · obtain ⟨p, vs, rfl, hp, r⟩ := ry.tup
    obtain ⟨e1, e2⟩ := (rx.rp (flat_plain hk.1.1)).vOf hk.1.1
    obtain ⟨e3, e4⟩ := r.flat hk.1.2
    refine ⟨p, vs, rfl, .inr (bs.sub.sqT hp), e2, e4, ?_⟩
    rw [hf, e1, e3]
    exact k _ F H _ hk.2 bs.refl rfl
  · exact hk.elim
theorem de_in (ha : RE X e M a ta) (hb : RE X e M b tb) (hm : behindInMarks .In b = false := by rfl) : DE X e M (.Compare a [.In] [b] pos) (t2 (kIn id) ta tb) := de_cmp op_in_seq (says_in (neg := false) fun _ => rfl) kIn_mono ha hb hm
theorem de_notIn (ha : RE X e M a ta) (hb : RE X e M b tb) (hm : behindInMarks .NotIn b = false := by rfl) : DE X e M (.Compare a [.NotIn] [b] pos) (t2 (kIn not) ta tb) := de_cmp op_notIn_seq (says_in (neg := true) fun _ => rfl) kIn_mono ha hb hm

/-! ### displays -/
def tNilA : DA := fun _ Q => Q []
def tConsA (ta : DT) (tr : DA) : DA := fun ρ Q => ta ρ fun x => tr ρ fun xs => Q (x :: xs)
theorem ae_nil : AE X e M [] tNilA := ⟨pa_imp pa_nil fun σ H Q ⟨g, F, ρ, sr, q⟩ => q F H [] sr.bs.refl rfl, fun _ _ _ f q => f _ q⟩
theorem ae_cons {tr : DA} (ha : DE X e M a ta) (hr : AE X e M xs tr) (hs : starEach (a :: xs) X.env = (false, eval a X.env) :: starEach xs X.env := by rfl) : AE X e M (a :: xs) (tConsA ta tr) :=
  ⟨pa_imp (pa_cons ha.pe hr.pa hs) fun σ H Q ⟨g, F, ρ, sr, q⟩ => ⟨g, F, ρ, sr, ha.mono ρ _ _ (fun d hd F1 H1 v s1 r1 => ⟨g, F1, ρ, sr.step s1, hr.mono ρ _ _ (fun ds hq F2 H2 vs s2 r2 =>
    hq F2 H2 (v :: vs) (s1.trans s2) (.cons (r1.mono s2.mono) r2)) hd⟩) q⟩, fun ρ Q Q' f q => ha.mono ρ _ _ (fun x q => hr.mono ρ _ _ (fun xs q => f _ q) q) q⟩
def tTupD (t : DA) : DT := fun ρ Q => t ρ fun ds => ds.length ≤ sizeLine ∧ Q (.tuple ds)
def tLstD (t : DA) : DA := fun ρ Q => t ρ fun ds => ds.length ≤ sizeLine ∧ Q ds
theorem de_tup {x1 : Nat} {t : DA} (h : AE X e M xs t) : DE X e M (.Tuple xs x1 pos) (tTupD t) :=
  ⟨pe_imp (pe_tupP h.pa) fun σ H Q ⟨g, F, ρ, sr, q⟩ => ⟨g, F, ρ, sr, h.mono ρ _ _ (fun ds hd F1 H1 vs s r => ⟨by rw [r.length]; exact hd.1, fun p o hn hc hdn =>
    hd.2 (upd F1 p (.frz o (.tup vs))) _ _ (s.trans ((s.bs sr.bs).alloc hn _)) ⟨p, vs, rfl, FrT.new hc hdn, r.mono (.new (s.sub.none hn))⟩⟩) q⟩,
    fun ρ Q Q' f q => h.mono ρ _ _ (fun ds q => ⟨q.1, f _ q.2⟩) q⟩
theorem fe_lst {t : DA} (h : AE X e M xs t) : FE X e M (.List xs pos) (tLstD t) :=
  ⟨pe_imp (pe_lst h.pa) fun σ H Q ⟨g, F, ρ, sr, q⟩ => ⟨g, F, ρ, sr, h.mono ρ _ _ (fun ds hd F1 H1 vs s r => ⟨by rw [r.length]; exact hd.1, fun p hn =>
    hd.2 F1 _ p vs (s.trans ((s.bs sr.bs).hide hn _)) (s.old hn) (s.sub.none hn) upd_same r⟩) q⟩,
    fun ρ Q Q' f q => h.mono ρ _ _ (fun ds q => ⟨q.1, f _ q.2⟩) q⟩

/-! ### built-in functions -/
def RdRL (K : PySem.W.Frag) (g : Rg) (F H : Hp) : List D → List V → Prop
  | [], vs => vs = []
  | d :: ds, vs => ∃ x xs, vs = x :: xs ∧ RdR K g F H d x ∧ RdRL K g F H ds xs
theorem RdRL.step {K : PySem.W.Frag} {g : Rg} {F H F' H' : Hp} (s : Stp g F H F' H') : ∀ {ds : List D} {vs : List V}, RdRL K g F H ds vs → RdRL K g F' H' ds vs
  | [], _, h => h
  | _ :: _, _, ⟨x, xs, e, h, r⟩ => ⟨x, xs, e, h.step s, RdRL.step s r⟩
def rdRA (K : PySem.W.Frag) (e : Ent) (M : List Md) (t : DA) : TA := fun σ H Q => ∃ g F ρ, SR K e M g F H σ ρ ∧ t ρ fun ds => ∀ F' H' vs, Stp g F H F' H' → RdRL K g F' H' ds vs → Q vs H'
structure AR (X : Cx) (e : Ent) (M : List Md) (xs : List Expr) (t : DA) : Prop where
  pa : PA X xs (rdRA X.K e M t)
  mono : Mono t
theorem ar_nil : AR X e M [] tNilA := ⟨pa_imp pa_nil fun σ H Q ⟨g, F, ρ, sr, q⟩ => q F H [] sr.bs.refl rfl, fun _ _ _ f q => f _ q⟩
theorem ar_cons {tr : DA} (ha : RE X e M a ta) (hr : AR X e M xs tr) (hs : starEach (a :: xs) X.env = (false, eval a X.env) :: starEach xs X.env := by rfl) : AR X e M (a :: xs) (tConsA ta tr) :=
  ⟨pa_imp (pa_cons ha.pe hr.pa hs) fun σ H Q ⟨g, F, ρ, sr, q⟩ => ⟨g, F, ρ, sr, ha.mono ρ _ _ (fun d hd F1 H1 v s1 r1 => ⟨g, F1, ρ, sr.step s1, hr.mono ρ _ _ (fun ds hq F2 H2 vs s2 r2 =>
    hq F2 H2 (v :: vs) (s1.trans s2) ⟨v, vs, rfl, r1.step s2, r2⟩) hd⟩) q⟩, fun ρ Q Q' f q => ha.mono ρ _ _ (fun x q => hr.mono ρ _ _ (fun xs q => f _ q) q) q⟩
abbrev KC := List D → (D → Prop) → Prop
def tCl (k : KC) (t : DA) : DT := fun ρ Q => t ρ fun ds => k ds Q
def MonoC (k : KC) : Prop := ∀ ds (Q Q' : D → Prop), (∀ d, Q d → Q' d) → k ds Q → k ds Q'
def SaysC (X : Cx) (r : List V → Hp → VK → Prop) (k : KC) : Prop := ∀ g F H ds vs (Qv : VK) (q : D → Prop), Bs g F H → RdRL X.K g F H ds vs → k ds q →
  (∀ d F' H' v, q d → Stp g F H F' H' → Rp X.K F' d v → Qv v H') → r vs H Qv
theorem callC {r : List V → Hp → VK → Prop} {k : KC} {t : DA} (hs : SaysC X r k) (ha : AR X e M xs t) : ∀ σ H Q, rdE X.K e M (tCl k t) σ H Q → tCB r (rdRA X.K e M t) σ H Q := fun σ H Q ⟨g, F, ρ, sr, q⟩ =>
  ⟨g, F, ρ, sr, ha.mono ρ _ _ (fun ds hd F1 H1 vs s rv => hs g F1 H1 ds vs Q _ (s.bs sr.bs) rv hd fun d F' H' v q s' rv' => q F' H' v (s.trans s') rv') q⟩
theorem tCl_mono {k : KC} {t : DA} (hk : MonoC k) (ha : Mono t) : Mono (tCl k t) := fun ρ Q Q' f q => ha ρ _ _ (fun ds q => hk ds _ _ f q) q
section
variable {id T : String} {y : Str} {p : Pos} {r : List V → Hp → VK → Prop} {k : KC} {tA : DA}
theorem de_callB (hc : CallR X (.builtin id) r) (hs : SaysC X r k) (hk : MonoC k) (hg : Gl X y) (hm : X.mg y = none) (hv : bootBuiltins y = some (.builtin id)) (ha : AR X e M (a :: xs) tA) (hn : y ≠ "__name__" := by decide) (hdb : (y == ("__debug__" : Str)) = false := by decide)
    (he : starEach (a :: xs) X.env = (false, eval a X.env) :: starEach xs X.env := by rfl) (hpl : (backTo pos (starEach xs X.env)).any (·.1) = false := by rfl) : DE X e M (.Call (.Name y p) (a :: xs) [] pos) (tCl k tA) :=
  ⟨pe_imp (pe_callB hc hg hm hv ha.pa hn hdb he hpl) (callC hs ha), tCl_mono hk ha.mono⟩
theorem de_callT (hc : CallR X (.type T) r) (hs : SaysC X r k) (hk : MonoC k) (hg : Gl X y) (hm : X.mg y = none) (hv : bootBuiltins y = some (.type T)) (ha : AR X e M (a :: xs) tA) (hn : y ≠ "__name__" := by decide) (hdb : (y == ("__debug__" : Str)) = false := by decide)
    (he : starEach (a :: xs) X.env = (false, eval a X.env) :: starEach xs X.env := by rfl) (hpl : (backTo pos (starEach xs X.env)).any (·.1) = false := by rfl) : DE X e M (.Call (.Name y p) (a :: xs) [] pos) (tCl k tA) :=
  ⟨pe_imp (pe_callTy hc hg hm hv ha.pa hn hdb he hpl) (callC hs ha), tCl_mono hk ha.mono⟩
end
theorem callOr {f : Value} {r r' : List V → Hp → VK → Prop} (h : CallR X f r) (h' : CallR X f r') : CallR X f (fun xs H Q => r xs H Q ∨ r' xs H Q) := h.or h'

def kLen : KC := fun ds Q => match ds with
  | [.list xs] => Q (.int xs.length)
  | [.tuple xs] => Q (.int xs.length)
  | _ => False
theorem kLen_mono : MonoC kLen := fun ds Q Q' f q => by
  unfold kLen at q ⊢
  split at q
  · exact f _ q
  · exact f _ q
  · exact q.elim
theorem RdRL.one {K : PySem.W.Frag} {g : Rg} {F H : Hp} {d : D} {vs : List V} (h : RdRL K g F H [d] vs) : ∃ v, vs = [v] ∧ RdR K g F H d v := by
  obtain ⟨x, xs, e, h, r⟩ := h
  have r : xs = [] := r
  subst r
  exact ⟨x, e, h⟩
theorem RdRL.two {K : PySem.W.Frag} {g : Rg} {F H : Hp} {d d' : D} {vs : List V} (h : RdRL K g F H [d, d'] vs) : ∃ v v', vs = [v, v'] ∧ RdR K g F H d v ∧ RdR K g F H d' v' := by
  obtain ⟨x, xs, e, h, r⟩ := h
  obtain ⟨y, rfl, h'⟩ := RdRL.one r
  exact ⟨x, y, e, h, h'⟩
theorem says_len : SaysC X (fun xs H Q => ∃ p ys, xs = [.ref p] ∧ (SqL X.K H p ys ∨ SqT X.K H p ys) ∧ Q (.int ys.length) H) kLen := by
  intro g F H ds vs Qv q bs rv hk k
  unfold kLen at hk
  split at hk
  · obtain ⟨v, rfl, r⟩ := rv.one
    obtain ⟨p, vs, rfl, hp, m, r⟩ := r.lst bs
    refine ⟨p, vs, rfl, .inl (.inl (.inl hp)), ?_⟩
    rw [r.length]
    exact k _ F H _ hk bs.refl rfl
  · obtain ⟨v, rfl, r⟩ := rv.one
    obtain ⟨p, vs, rfl, hp, r⟩ := r.tup
    refine ⟨p, vs, rfl, .inr (bs.sub.sqT hp), ?_⟩
    rw [r.length]
    exact k _ F H _ hk bs.refl rfl
  · exact hk.elim
def kInt : KC := fun ds Q => match ds with
  | [.int i] => Q (.int i)
  | _ => False
theorem kInt_mono : MonoC kInt := fun ds Q Q' f q => by
  unfold kInt at q ⊢
  split at q
  · exact f _ q
  · exact q.elim
theorem says_int : SaysC X (fun xs H Q => (∃ i, xs = [.int i] ∧ Q (.int i) H) ∨ ∃ k, xs = [.bl k] ∧ Q (.int (if k then 1 else 0)) H) kInt := by
  intro g F H ds vs Qv q bs rv hk k
  unfold kInt at hk
  split at hk
  · obtain ⟨v, rfl, r⟩ := rv.one
    exact .inl ⟨_, by rw [r.int], k _ F H _ hk bs.refl rfl⟩
  · exact hk.elim
def kAbs : KC := fun ds Q => match ds with
  | [.int i] => Q (.int (if i < 0 then -i else i))
  | _ => False
theorem kAbs_mono : MonoC kAbs := fun ds Q Q' f q => by
  unfold kAbs at q ⊢
  split at q
  · exact f _ q
  · exact q.elim
theorem says_abs : SaysC X (fun xs H Q => ∃ i, xs = [.int i] ∧ Q (.int (if i < 0 then -i else i)) H) kAbs := by
  intro g F H ds vs Qv q bs rv hk k
  unfold kAbs at hk
  split at hk
  · obtain ⟨v, rfl, r⟩ := rv.one
    exact ⟨_, by rw [r.int], k _ F H _ hk bs.refl rfl⟩
  · exact hk.elim
def kMax2 : KC := fun ds Q => match ds with
  | [.int i, .int j] => Q (.int (if j > i then j else i))
  | _ => False
theorem kMax2_mono : MonoC kMax2 := fun ds Q Q' f q => by
  unfold kMax2 at q ⊢
  split at q
  · exact f _ q
  · exact q.elim
theorem says_max2 : SaysC X (fun xs H Q => ∃ i j, xs = [.int i, .int j] ∧ Q (.int (if j > i then j else i)) H) kMax2 := by
  intro g F H ds vs Qv q bs rv hk k
  unfold kMax2 at hk
  split at hk
  · obtain ⟨v, v', rfl, r, r'⟩ := rv.two
    exact ⟨_, _, by rw [r.int, r'.int], k _ F H _ hk bs.refl rfl⟩
  · exact hk.elim
/-- tuple(x) -/
def kTupl : KC := fun ds Q => match ds with
  | [.list xs] => Q (.tuple xs)
  | [.tuple xs] => Q (.tuple xs)
  | _ => False
theorem kTupl_mono : MonoC kTupl := fun ds Q Q' f q => by
  unfold kTupl at q ⊢
  split at q
  · exact f _ q
  · exact f _ q
  · exact q.elim
theorem says_tupl : SaysC X (fun xs H Q => rTupP X.K xs H Q) kTupl := by
  intro g F H ds vs Qv q bs rv hk k
  unfold kTupl at hk
  split at hk
  · obtain ⟨v, rfl, r⟩ := rv.one
    obtain ⟨p, vs, rfl, hp, m, r⟩ := r.lst bs
    exact ⟨p, vs, rfl, .inl ⟨.inl (.inl hp), fun l o hn hc hd => k _ (upd F l (.frz o (.tup vs))) _ _ hk (bs.alloc hn _) ⟨l, vs, rfl, FrT.new hc hd, r.mono (.new (bs.sub.none hn))⟩⟩⟩
  · obtain ⟨v, rfl, r⟩ := rv.one
    obtain ⟨p, vs, rfl, hp, r⟩ := r.tup
    exact ⟨p, vs, rfl, .inr ⟨bs.sub.sqT hp, k _ F H _ hk bs.refl ⟨p, vs, rfl, hp, r⟩⟩⟩
  · exact hk.elim
/-- all, any of a list of bools -/
def bools : List D → Option (List Bool)
  | [] => some []
  | .bool b :: r => (bools r).map (b :: ·)
  | _ :: _ => none
theorem bools_map {ds : List D} {bs : List Bool} (h : bools ds = some bs) : ds = bs.map PyData.bool := by
  induction ds generalizing bs with
  | nil => cases h; rfl
  | cons d ds ih =>
    cases d <;> first
      | (unfold bools at h
         cases q : bools ds with
         | none => rw [q] at h; cases h
         | some cs => rw [q] at h; cases h; rw [ih q]; rfl)
      | cases h
theorem bools_of (bs : List Bool) : bools (bs.map PyData.bool) = some bs := by
  induction bs with
  | nil => rfl
  | cons b bs ih => simp [bools, ih]
def kAll : KC := fun ds Q => match ds with
  | [.list xs] => (match bools xs with | some bs => Q (.bool (bs.all id)) | none => False)
  | _ => False
def kAny : KC := fun ds Q => match ds with
  | [.list xs] => (match bools xs with | some bs => Q (.bool (bs.any id)) | none => False)
  | _ => False
theorem kAll_mono : MonoC kAll := fun ds Q Q' f q => by
  unfold kAll at q ⊢
  split at q
  · split at q
    · exact f _ q
    · exact q.elim
  · exact q.elim
theorem kAny_mono : MonoC kAny := fun ds Q Q' f q => by
  unfold kAny at q ⊢
  split at q
  · split at q
    · exact f _ q
    · exact q.elim
  · exact q.elim
theorem says_all : SaysC X (rAll X.K) kAll := by
  intro g F H ds vs Qv q bs rv hk k
  unfold kAll at hk
  split at hk
  · split at hk
    · rename_i xs bl hb
      obtain ⟨v, rfl, r⟩ := rv.one
      obtain ⟨p, vs, rfl, hp, m, r⟩ := r.lst bs
      rw [bools_map hb] at r
      refine ⟨p, bl, rfl, .inl (.inl ?_), k _ F H _ hk bs.refl rfl⟩
      rw [← r.bools_inv]; exact hp
    · exact hk.elim
  · exact hk.elim
theorem says_any : SaysC X (rAny X.K) kAny := by
  intro g F H ds vs Qv q bs rv hk k
  unfold kAny at hk
  split at hk
  · split at hk
    · rename_i xs bl hb
      obtain ⟨v, rfl, r⟩ := rv.one
      obtain ⟨p, vs, rfl, hp, m, r⟩ := r.lst bs
      rw [bools_map hb] at r
      refine ⟨p, bl, rfl, .inl (.inl ?_), k _ F H _ hk bs.refl rfl⟩
      rw [← r.bools_inv]; exact hp
    · exact hk.elim
  · exact hk.elim
end
section
variable {X : Cx} {e : Ent} {M : List Md} {a b c : Expr} {xs : List Expr} {tA : DA} {ta tb tc : DT} {pos p : Pos}
theorem de_len (hg : Gl X "len") (hm : X.mg "len" = none) (ha : AR X e M (a :: xs) tA) (he : starEach (a :: xs) X.env = (false, eval a X.env) :: starEach xs X.env := by rfl) (hpl : (backTo pos (starEach xs X.env)).any (·.1) = false := by rfl) :
    DE X e M (.Call (.Name "len" p) (a :: xs) [] pos) (tCl kLen tA) := de_callB call_len_seq says_len kLen_mono hg hm PySem.boot_len ha (he := he) (hpl := hpl)
theorem de_abs (hg : Gl X "abs") (hm : X.mg "abs" = none) (ha : AR X e M (a :: xs) tA) (he : starEach (a :: xs) X.env = (false, eval a X.env) :: starEach xs X.env := by rfl) (hpl : (backTo pos (starEach xs X.env)).any (·.1) = false := by rfl) :
    DE X e M (.Call (.Name "abs" p) (a :: xs) [] pos) (tCl kAbs tA) := de_callB call_abs says_abs kAbs_mono hg hm (by decide +kernel) ha (he := he) (hpl := hpl)
theorem de_max2 (hc : X.calm = true) (hg : Gl X "max") (hm : X.mg "max" = none) (ha : AR X e M (a :: xs) tA) (he : starEach (a :: xs) X.env = (false, eval a X.env) :: starEach xs X.env := by rfl) (hpl : (backTo pos (starEach xs X.env)).any (·.1) = false := by rfl) :
    DE X e M (.Call (.Name "max" p) (a :: xs) [] pos) (tCl kMax2 tA) := de_callB (call_max2 hc) says_max2 kMax2_mono hg hm (by decide +kernel) ha (he := he) (hpl := hpl)
theorem de_toInt (hg : Gl X "int") (hm : X.mg "int" = none) (ha : AR X e M (a :: xs) tA) (he : starEach (a :: xs) X.env = (false, eval a X.env) :: starEach xs X.env := by rfl) (hpl : (backTo pos (starEach xs X.env)).any (·.1) = false := by rfl) :
    DE X e M (.Call (.Name "int" p) (a :: xs) [] pos) (tCl kInt tA) := de_callT call_int1 says_int kInt_mono hg hm (by decide +kernel) ha (he := he) (hpl := hpl)
theorem de_tuple (hg : Gl X "tuple") (hm : X.mg "tuple" = none) (ha : AR X e M (a :: xs) tA) (he : starEach (a :: xs) X.env = (false, eval a X.env) :: starEach xs X.env := by rfl) (hpl : (backTo pos (starEach xs X.env)).any (·.1) = false := by rfl) :
    DE X e M (.Call (.Name "tuple" p) (a :: xs) [] pos) (tCl kTupl tA) := de_callT cr_tupP says_tupl kTupl_mono hg hm (by decide +kernel) ha (he := he) (hpl := hpl)
theorem de_all (hc : X.calm = true) (hg : Gl X "all") (hm : X.mg "all" = none) (ha : AR X e M (a :: xs) tA) (he : starEach (a :: xs) X.env = (false, eval a X.env) :: starEach xs X.env := by rfl) (hpl : (backTo pos (starEach xs X.env)).any (·.1) = false := by rfl) :
    DE X e M (.Call (.Name "all" p) (a :: xs) [] pos) (tCl kAll tA) := de_callB (cr_all hc) says_all kAll_mono hg hm (by decide +kernel) ha (he := he) (hpl := hpl)
theorem de_any (hc : X.calm = true) (hg : Gl X "any") (hm : X.mg "any" = none) (ha : AR X e M (a :: xs) tA) (he : starEach (a :: xs) X.env = (false, eval a X.env) :: starEach xs X.env := by rfl) (hpl : (backTo pos (starEach xs X.env)).any (·.1) = false := by rfl) :
    DE X e M (.Call (.Name "any" p) (a :: xs) [] pos) (tCl kAny tA) := de_callB (cr_any hc) says_any kAny_mono hg hm (by decide +kernel) ha (he := he) (hpl := hpl)
/-- list(x): a new one -/
def kListF : List D → (List D → Prop) → Prop := fun ds Q => match ds with
  | [.list xs] => Q xs
  | [.tuple xs] => Q xs
  | _ => False
theorem fe_list (hg : Gl X "list") (hm : X.mg "list" = none) (ha : AR X e M (a :: xs) tA) (he : starEach (a :: xs) X.env = (false, eval a X.env) :: starEach xs X.env := by rfl) (hpl : (backTo pos (starEach xs X.env)).any (·.1) = false := by rfl) :
    FE X e M (.Call (.Name "list" p) (a :: xs) [] pos) (fun ρ Q => tA ρ fun ds => kListF ds Q) :=
  ⟨pe_imp (pe_callTy call_list_of hg hm (by decide +kernel) ha.pa (he := he) (hpl := hpl)) fun σ H Q ⟨g, F, ρ, sr, q⟩ => ⟨g, F, ρ, sr, ha.mono ρ _ _ (fun ds hd F1 H1 vs s rv => by
    have bs := s.bs sr.bs
    unfold kListF at hd
    split at hd
    · obtain ⟨v, rfl, r⟩ := rv.one
      obtain ⟨p, vs, rfl, hp, m, r⟩ := r.lst bs
      exact ⟨p, vs, rfl, .inl (.inl (.inl hp)), fun l hn => hd F1 _ l vs (s.trans (bs.hide hn _)) (s.old hn) (s.sub.none hn) upd_same r⟩
    · obtain ⟨v, rfl, r⟩ := rv.one
      obtain ⟨p, vs, rfl, hp, r⟩ := r.tup
      exact ⟨p, vs, rfl, .inr (bs.sub.sqT hp), fun l hn => hd F1 _ l vs (s.trans (bs.hide hn _)) (s.old hn) (s.sub.none hn) upd_same r⟩
    · exact hd.elim) q⟩, fun ρ Q Q' f q => ha.mono ρ _ _ (fun ds q => by
    unfold kListF at q ⊢
    split at q
    · exact f _ q
    · exact f _ q
    · exact q.elim) q⟩
end
end PP

set_option Elab.async false
set_option linter.all false
set_option maxRecDepth 100000
set_option maxHeartbeats 4000000
namespace PP
open PySem PySem.Spec PyProof.Rows L2

section
variable {X : Cx} {e : Ent} {M : List Md} {x a b c : Expr} {xs : List Expr} {t ta tb tc : DT} {tA tB' : DB} {pos p : Pos}

/-! ### tests -/
def tTst (t : DT) : DB := fun ρ Q => t ρ fun d => match d with | .bool b => Q b | _ => False
theorem tTst_mono (h : Mono t) : Mono (tTst t) := fun ρ Q Q' f q => h ρ _ _ (fun d q => by
  split at q
  · exact f _ q
  · exact q.elim) q
theorem dc_val (h : DE X e M x t) (he : ∀ whole, isTrue x X.env whole = (do let v ← whole; standAt x.pos; holding [v] (truthy v)) := by intro _; rfl) : DC X e M x (tTst t) :=
  ⟨pt_imp (pt_val h.pe he) fun σ H Q ⟨g, F, ρ, sr, q⟩ => ⟨g, F, ρ, sr, h.mono ρ _ _ (fun d hd F1 H1 v s rv => by
    split at hd
    · exact ⟨_, rv, hd F1 H1 s⟩
    · exact hd.elim) q⟩, tTst_mono h.mono⟩
theorem dc_cmp {op : CmpOp} {r : R2} {k : K2} (ho : OpR X (compareOp op) r) (hs : Says2 X r k) (hk : Mono2 k) (ha : RE X e M a ta) (hb : RE X e M b tb) (hm : behindInMarks op b = false) : DC X e M (.Compare a [op] [b] pos) (tTst (t2 k ta tb)) :=
  ⟨pt_imp (pt_cmpR ho ha.pe hb.pe hm) fun σ H Q ⟨g, F, ρ, sr, q⟩ => by
    have q' : rdE X.K e M (t2 k ta tb) σ H (fun v H' => ∃ b, v = .bl b ∧ Q b H') := ⟨g, F, ρ, sr, t2_mono hk ha.mono hb.mono ρ _ _ (fun d hd F1 H1 v s rv => by
      split at hd
      · exact ⟨_, rv, hd F1 H1 s⟩
      · exact hd.elim) q⟩
    exact op2 ha hb hs σ H _ q', tTst_mono (t2_mono hk ha.mono hb.mono)⟩
theorem dc_lt (ha : RE X e M a ta) (hb : RE X e M b tb) : DC X e M (.Compare a [.Lt] [b] pos) (tTst (t2 kLt ta tb)) := dc_cmp op_lt (says_I0 fun _ _ _ => rfl) kI_mono ha hb (nm (by decide) (by decide))
theorem dc_le (ha : RE X e M a ta) (hb : RE X e M b tb) : DC X e M (.Compare a [.LtE] [b] pos) (tTst (t2 kLe ta tb)) := dc_cmp op_le (says_I0 fun _ _ _ => rfl) kI_mono ha hb (nm (by decide) (by decide))
theorem dc_gt (ha : RE X e M a ta) (hb : RE X e M b tb) : DC X e M (.Compare a [.Gt] [b] pos) (tTst (t2 kGt ta tb)) := dc_cmp op_gt (says_I0 fun _ _ _ => rfl) kI_mono ha hb (nm (by decide) (by decide))
theorem dc_ge (ha : RE X e M a ta) (hb : RE X e M b tb) : DC X e M (.Compare a [.GtE] [b] pos) (tTst (t2 kGe ta tb)) := dc_cmp op_ge (says_I0 fun _ _ _ => rfl) kI_mono ha hb (nm (by decide) (by decide))
theorem dc_eq (hu : X.A.units + 64 < cLine) (ha : RE X e M a ta) (hb : RE X e M b tb) : DC X e M (.Compare a [.Eq] [b] pos) (tTst (t2 (kEq id) ta tb)) := dc_cmp (op_eqX hu) says_eq kEq_mono ha hb (nm (by decide) (by decide))
theorem dc_ne (hu : X.A.units + 64 < cLine) (ha : RE X e M a ta) (hb : RE X e M b tb) : DC X e M (.Compare a [.NotEq] [b] pos) (tTst (t2 (kEq not) ta tb)) := dc_cmp (op_neX hu) says_eq kEq_mono ha hb (nm (by decide) (by decide))
theorem dc_in (ha : RE X e M a ta) (hb : RE X e M b tb) (hm : behindInMarks .In b = false := by rfl) : DC X e M (.Compare a [.In] [b] pos) (tTst (t2 (kIn id) ta tb)) := dc_cmp op_in_seq (says_in (neg := false) fun _ => rfl) kIn_mono ha hb hm
theorem dc_notIn (ha : RE X e M a ta) (hb : RE X e M b tb) (hm : behindInMarks .NotIn b = false := by rfl) : DC X e M (.Compare a [.NotIn] [b] pos) (tTst (t2 (kIn not) ta tb)) := dc_cmp op_notIn_seq (says_in (neg := true) fun _ => rfl) kIn_mono ha hb hm
theorem dc_isN {j : Nat} {p2 : Pos} (ha : RE X e M a ta) : DC X e M (.Compare a [.Is] [.Constant .none j p2] pos) (tTst (t1 (kIsN id) ta)) :=
  ⟨pt_imp (pt_cmp (pc_isN ha.pe)) fun σ H Q ⟨g, F, ρ, sr, q⟩ => ⟨g, F, ρ, sr, ha.mono ρ _ _ (fun d hd F1 H1 v s rv => by
    show ∃ c, V.bl (decide (v = V.non)) = .bl c ∧ Q c H1
    rw [rd_non rv]; exact ⟨_, rfl, hd F1 H1 s⟩) q⟩, tTst_mono (t1_mono kIsN_mono ha.mono)⟩
theorem dc_notN {j : Nat} {p2 : Pos} (ha : RE X e M a ta) : DC X e M (.Compare a [.IsNot] [.Constant .none j p2] pos) (tTst (t1 (kIsN not) ta)) :=
  ⟨pt_imp (pt_cmp (pc_notN ha.pe)) fun σ H Q ⟨g, F, ρ, sr, q⟩ => ⟨g, F, ρ, sr, ha.mono ρ _ _ (fun d hd F1 H1 v s rv => by
    show ∃ c, V.bl (!decide (v = V.non)) = .bl c ∧ Q c H1
    rw [rd_non rv]; exact ⟨_, rfl, hd F1 H1 s⟩) q⟩, tTst_mono (t1_mono kIsN_mono ha.mono)⟩
/-- truth -/
def tTru (t : DT) : DB := fun ρ Q => t ρ fun d => match d with
  | .none => Q false
  | .bool b => Q b
  | .int i => Q (i != 0)
  | .list xs => Q (!xs.isEmpty)
  | .tuple xs => Q (!xs.isEmpty)
  | _ => False
theorem RpL.empty {K : PySem.W.Frag} {H : Hp} {ds : List D} {vs : List V} (r : RpL K H ds vs) : vs.isEmpty = ds.isEmpty := by
  cases ds with
  | nil => have r : vs = [] := r; subst r; rfl
  | cons d ds => obtain ⟨x, xs, rfl, _⟩ := r; rfl
theorem dc_truth (h : RE X e M x t) (he : ∀ whole, isTrue x X.env whole = (do let v ← whole; standAt x.pos; holding [v] (truthy v)) := by intro _; rfl) : DC X e M x (tTru t) :=
  ⟨pt_imp (pt_truth h.pe he) fun σ H Q ⟨g, F, ρ, sr, q⟩ => ⟨g, F, ρ, sr, h.mono ρ _ _ (fun d hd F1 H1 v s rv => by
    have bs := s.bs sr.bs
    split at hd
    · rw [rv.non]; exact ⟨_, rfl, hd F1 H1 s⟩
    · rw [rv.bool]; exact ⟨_, rfl, hd F1 H1 s⟩
    · rw [rv.int]; exact ⟨_, rfl, hd F1 H1 s⟩
    · obtain ⟨p, vs, rfl, hp, m, r⟩ := rv.lst bs
      exact ⟨_, .inl ⟨vs, .inl (.inl hp), by rw [r.empty]⟩, hd F1 H1 s⟩
    · obtain ⟨p, vs, rfl, hp, r⟩ := rv.tup
      exact ⟨_, .inr (.inl ⟨vs, bs.sub.sqT hp, by rw [r.empty]⟩), hd F1 H1 s⟩
    · exact hd.elim) q⟩, fun ρ Q Q' f q => h.mono ρ _ _ (fun d q => by
      split at q
      · exact f _ q
      · exact f _ q
      · exact f _ q
      · exact f _ q
      · exact f _ q
      · exact q.elim) q⟩
def tAndD (t u : DB) : DB := fun ρ Q => t ρ fun b => if b = true then u ρ Q else Q false
def tOrD (t u : DB) : DB := fun ρ Q => t ρ fun b => if b = true then Q true else u ρ Q
theorem DW.dc (h : DW X e M x tA) : DC X e M x tA := ⟨h.pw.pt, h.mono⟩
theorem dw_and1 (ha : DC X e M a tA) : DW X e M (.BoolOp .And [a] pos) tA := ⟨pw_and1 ha.pt, ha.mono⟩
theorem dw_or1 (ha : DC X e M a tA) : DW X e M (.BoolOp .Or [a] pos) tA := ⟨pw_or1 ha.pt, ha.mono⟩
theorem dw_and {rest : List Expr} (ha : DC X e M a tA) (hb : DW X e M (.BoolOp .And (b :: rest) pos) tB') : DW X e M (.BoolOp .And (a :: b :: rest) pos) (tAndD tA tB') :=
  ⟨pw_imp (pw_and ha.pt hb.pw) fun σ H Q ⟨g, F, ρ, sr, q⟩ => ⟨g, F, ρ, sr, ha.mono ρ _ _ (fun k hk F1 H1 s => by
    cases k with
    | true => exact ⟨g, F1, ρ, sr.step s, hb.mono ρ _ _ (fun k hk F2 H2 s2 => hk F2 H2 (s.trans s2)) hk⟩
    | false => exact hk F1 H1 s) q⟩, fun ρ Q Q' f q => ha.mono ρ _ _ (fun k q => by
    cases k with
    | true => exact hb.mono ρ _ _ f q
    | false => exact f _ q) q⟩
theorem dw_or {rest : List Expr} (ha : DC X e M a tA) (hb : DW X e M (.BoolOp .Or (b :: rest) pos) tB') : DW X e M (.BoolOp .Or (a :: b :: rest) pos) (tOrD tA tB') :=
  ⟨pw_imp (pw_or ha.pt hb.pw) fun σ H Q ⟨g, F, ρ, sr, q⟩ => ⟨g, F, ρ, sr, ha.mono ρ _ _ (fun k hk F1 H1 s => by
    cases k with
    | true => exact hk F1 H1 s
    | false => exact ⟨g, F1, ρ, sr.step s, hb.mono ρ _ _ (fun k hk F2 H2 s2 => hk F2 H2 (s.trans s2)) hk⟩) q⟩, fun ρ Q Q' f q => ha.mono ρ _ _ (fun k q => by
    cases k with
    | true => exact f _ q
    | false => exact hb.mono ρ _ _ f q) q⟩
theorem dc_not (ha : DC X e M a tA) : DC X e M (.UnaryOp .Not a pos) (fun ρ Q => tA ρ fun b => Q (!b)) :=
  ⟨pt_imp (pt_not ha.pt) fun σ H Q ⟨g, F, ρ, sr, q⟩ => ⟨g, F, ρ, sr, q⟩, fun ρ Q Q' f q => ha.mono ρ _ _ (fun b q => f _ q) q⟩
/-- as values -/
def tAndE (ta tb : DT) : DT := fun ρ Q => ta ρ fun d => match d with | .bool true => tb ρ Q | .bool false => Q (.bool false) | _ => False
def tOrE (ta tb : DT) : DT := fun ρ Q => ta ρ fun d => match d with | .bool false => tb ρ Q | .bool true => Q (.bool true) | _ => False
theorem de_one {op : BoolOp} (h : DE X e M a t) : DE X e M (.BoolOp op [a] pos) t := ⟨pe_one h.pe, h.mono⟩
theorem de_and {rest : List Expr} (ha : DE X e M a ta) (hb : DE X e M (.BoolOp .And (b :: rest) pos) tb) : DE X e M (.BoolOp .And (a :: b :: rest) pos) (tAndE ta tb) :=
  ⟨pe_imp (pe_and ha.pe hb.pe) fun σ H Q ⟨g, F, ρ, sr, q⟩ => ⟨g, F, ρ, sr, ha.mono ρ _ _ (fun d hd F1 H1 v s rv => by
    split at hd
    · exact ⟨true, rv, ⟨g, F1, ρ, sr.step s, hb.mono ρ _ _ (fun k hk F2 H2 v s2 => hk F2 H2 v (s.trans s2)) hd⟩⟩
    · exact ⟨false, rv, hd F1 H1 _ s rfl⟩
    · exact hd.elim) q⟩, fun ρ Q Q' f q => ha.mono ρ _ _ (fun d q => by
    split at q
    · exact hb.mono ρ _ _ f q
    · exact f _ q
    · exact q.elim) q⟩
theorem de_or {rest : List Expr} (ha : DE X e M a ta) (hb : DE X e M (.BoolOp .Or (b :: rest) pos) tb) : DE X e M (.BoolOp .Or (a :: b :: rest) pos) (tOrE ta tb) :=
  ⟨pe_imp (pe_or ha.pe hb.pe) fun σ H Q ⟨g, F, ρ, sr, q⟩ => ⟨g, F, ρ, sr, ha.mono ρ _ _ (fun d hd F1 H1 v s rv => by
    split at hd
    · exact ⟨false, rv, ⟨g, F1, ρ, sr.step s, hb.mono ρ _ _ (fun k hk F2 H2 v s2 => hk F2 H2 v (s.trans s2)) hd⟩⟩
    · exact ⟨true, rv, hd F1 H1 _ s rfl⟩
    · exact hd.elim) q⟩, fun ρ Q Q' f q => ha.mono ρ _ _ (fun d q => by
    split at q
    · exact hb.mono ρ _ _ f q
    · exact f _ q
    · exact q.elim) q⟩
theorem de_not (ha : DE X e M a ta) : DE X e M (.UnaryOp .Not a pos) (fun ρ Q => tTst ta ρ fun b => Q (.bool (!b))) :=
  ⟨pe_imp (pe_not ha.pe) fun σ H Q ⟨g, F, ρ, sr, q⟩ => ⟨g, F, ρ, sr, ha.mono ρ _ _ (fun d hd F1 H1 v s rv => by
    split at hd
    · exact ⟨_, rv, hd F1 H1 _ s rfl⟩
    · exact hd.elim) q⟩, fun ρ Q Q' f q => tTst_mono ha.mono ρ _ _ (fun b q => f _ q) q⟩
def tIfD (t : DB) (ta tb : DT) : DT := fun ρ Q => t ρ fun b => if b = true then ta ρ Q else tb ρ Q
theorem tIfD_mono (h : Mono tA) (ha : Mono ta) (hb : Mono tb) : Mono (tIfD tA ta tb) := fun ρ Q Q' f q => h ρ _ _ (fun b q => by
  cases b with
  | true => exact ha ρ _ _ f q
  | false => exact hb ρ _ _ f q) q
theorem de_if (hc : DC X e M c tA) (ha : DE X e M a ta) (hb : DE X e M b tb) : DE X e M (.IfExp c a b pos) (tIfD tA ta tb) :=
  ⟨pe_imp (pe_ifExp hc.pt ha.pe hb.pe) fun σ H Q ⟨g, F, ρ, sr, q⟩ => ⟨g, F, ρ, sr, hc.mono ρ _ _ (fun k hk F1 H1 s => by
    cases k with
    | true => exact ⟨g, F1, ρ, sr.step s, ha.mono ρ _ _ (fun d hd F2 H2 v s2 => hd F2 H2 v (s.trans s2)) hk⟩
    | false => exact ⟨g, F1, ρ, sr.step s, hb.mono ρ _ _ (fun d hd F2 H2 v s2 => hd F2 H2 v (s.trans s2)) hk⟩) q⟩, tIfD_mono hc.mono ha.mono hb.mono⟩
/-- a <= b < c, of ints -/
def tCh (f f' : Int → Int → Bool) (ta tb tc : DT) : DT := fun ρ Q => ta ρ fun x => tb ρ fun y => match x, y with
  | .int i, .int j => if f i j = true then tc ρ fun z => (match z with | .int k => Q (.bool (f' j k)) | _ => False) else Q (.bool false)
  | _, _ => False
theorem tCh_mono {f f' : Int → Int → Bool} (ha : Mono ta) (hb : Mono tb) (hc : Mono tc) : Mono (tCh f f' ta tb tc) := fun ρ Q Q' h q => ha ρ _ _ (fun x q => hb ρ _ _ (fun y q => by
  split at q
  · rename_i i j _
    cases hf : f i j with
    | true =>
      rw [hf] at q
      refine hc ρ _ _ (fun z q => ?_) q
      split at q
      · exact h _ q
      · exact q.elim
    | false =>
      rw [hf] at q
      exact h _ q
  · exact q.elim) q) q
theorem chainI {f f' : Int → Int → Bool} (ha : RE X e M a ta) (hb : RE X e M b tb) (hc : RE X e M c tc) : ∀ σ H Q, rdE X.K e M (tCh f f' ta tb tc) σ H Q →
    tChain (rI0 fun i j => .bl (f i j)) (rI0 fun i j => .bl (f' i j)) (rdR X.K e M ta) (rdR X.K e M tb) (rdR X.K e M tc) σ H Q := fun σ H Q ⟨g, F, ρ, sr, q⟩ =>
  ⟨g, F, ρ, sr, ha.mono ρ _ _ (fun dx hx F1 H1 x s1 rx => ⟨g, F1, ρ, sr.step s1, hb.mono ρ _ _ (fun dy hy F2 H2 y s2 ry => by
    split at hy
    · rename_i i j
      refine ⟨i, j, rx.int, ry.int, f i j, rfl, ?_⟩
      cases hf : f i j with
      | true =>
        rw [hf] at hy
        refine ⟨g, F2, ρ, (sr.step s1).step s2, hc.mono ρ _ _ (fun dz hz F3 H3 z s3 rz => ?_) hy⟩
        split at hz
        · exact ⟨j, _, ry.int, rz.int, hz F3 H3 _ ((s1.trans s2).trans s3) rfl⟩
        · exact hz.elim
      | false =>
        rw [hf] at hy
        exact hy F2 H2 _ (s1.trans s2) rfl
    · exact hy.elim) hx⟩) q⟩
theorem de_chain {op op' : CmpOp} {f f' : Int → Int → Bool} (ho : OpR X (compareOp op) (rI0 fun i j => .bl (f i j))) (ho' : OpR X (compareOp op') (rI0 fun i j => .bl (f' i j))) (ha : RE X e M a ta) (hb : RE X e M b tb) (hc : RE X e M c tc)
    (hm : lastMarks [op, op'] [b, c] = false := by with_unfolding_all rfl) : DE X e M (.Compare a [op, op'] [b, c] pos) (tCh f f' ta tb tc) :=
  ⟨pe_imp (pe_chain ho ho' ha.pe hb.pe hc.pe hm) (chainI ha hb hc), tCh_mono ha.mono hb.mono hc.mono⟩
theorem dc_chain {op op' : CmpOp} {f f' : Int → Int → Bool} (ho : OpR X (compareOp op) (rI0 fun i j => .bl (f i j))) (ho' : OpR X (compareOp op') (rI0 fun i j => .bl (f' i j))) (ha : RE X e M a ta) (hb : RE X e M b tb) (hc : RE X e M c tc)
    (hm : lastMarks [op, op'] [b, c] = false := by with_unfolding_all rfl) : DC X e M (.Compare a [op, op'] [b, c] pos) (tTst (tCh f f' ta tb tc)) :=
  ⟨pt_imp (pt_chain ho ho' ha.pe hb.pe hc.pe hm) fun σ H Q ⟨g, F, ρ, sr, q⟩ => by
    have q' : rdE X.K e M (tCh f f' ta tb tc) σ H (fun v H' => ∃ b, v = .bl b ∧ Q b H') := ⟨g, F, ρ, sr, tCh_mono ha.mono hb.mono hc.mono ρ _ _ (fun d hd F1 H1 v s rv => by
      split at hd
      · exact ⟨_, rv, hd F1 H1 s⟩
      · exact hd.elim) q⟩
    exact chainI ha hb hc σ H _ q', tTst_mono (tCh_mono ha.mono hb.mono hc.mono)⟩

/-! ### isinstance -/
def tyN : D → String
  | .none => "NoneType" | .bool _ => "bool" | .int _ => "int" | .str _ => "str" | .list _ => "list" | .tuple _ => "tuple" | .dict _ => "dict"
def isIntD : D → Bool | .int _ => true | .bool _ => true | _ => false
def isBoolD : D → Bool | .bool _ => true | _ => false
def isStrD : D → Bool | .str _ => true | _ => false
def isTupD : D → Bool | .tuple _ => true | _ => false
def isListD : D → Bool | .list _ => true | _ => false
def isDictD : D → Bool | .dict _ => true | _ => false
theorem kIntD : ∀ d : D, kitB (tyN d) "int" = some (isIntD d)
  | .none => (by decide +kernel : kitB "NoneType" "int" = some false)
  | .bool _ => (by decide +kernel : kitB "bool" "int" = some true)
  | .int _ => (by decide +kernel : kitB "int" "int" = some true)
  | .str _ => (by decide +kernel : kitB "str" "int" = some false)
  | .list _ => (by decide +kernel : kitB "list" "int" = some false)
  | .tuple _ => (by decide +kernel : kitB "tuple" "int" = some false)
  | .dict _ => (by decide +kernel : kitB "dict" "int" = some false)
theorem kBoolD : ∀ d : D, kitB (tyN d) "bool" = some (isBoolD d)
  | .none => (by decide +kernel : kitB "NoneType" "bool" = some false)
  | .bool _ => (by decide +kernel : kitB "bool" "bool" = some true)
  | .int _ => (by decide +kernel : kitB "int" "bool" = some false)
  | .str _ => (by decide +kernel : kitB "str" "bool" = some false)
  | .list _ => (by decide +kernel : kitB "list" "bool" = some false)
  | .tuple _ => (by decide +kernel : kitB "tuple" "bool" = some false)
  | .dict _ => (by decide +kernel : kitB "dict" "bool" = some false)
theorem kStrD : ∀ d : D, kitB (tyN d) "str" = some (isStrD d)
  | .none => (by decide +kernel : kitB "NoneType" "str" = some false)
  | .bool _ => (by decide +kernel : kitB "bool" "str" = some false)
  | .int _ => (by decide +kernel : kitB "int" "str" = some false)
  | .str _ => (by decide +kernel : kitB "str" "str" = some true)
  | .list _ => (by decide +kernel : kitB "list" "str" = some false)
  | .tuple _ => (by decide +kernel : kitB "tuple" "str" = some false)
  | .dict _ => (by decide +kernel : kitB "dict" "str" = some false)
theorem kTupD : ∀ d : D, kitB (tyN d) "tuple" = some (isTupD d)
  | .none => (by decide +kernel : kitB "NoneType" "tuple" = some false)
  | .bool _ => (by decide +kernel : kitB "bool" "tuple" = some false)
  | .int _ => (by decide +kernel : kitB "int" "tuple" = some false)
  | .str _ => (by decide +kernel : kitB "str" "tuple" = some false)
  | .list _ => (by decide +kernel : kitB "list" "tuple" = some false)
  | .tuple _ => (by decide +kernel : kitB "tuple" "tuple" = some true)
  | .dict _ => (by decide +kernel : kitB "dict" "tuple" = some false)
theorem kListD : ∀ d : D, kitB (tyN d) "list" = some (isListD d)
  | .none => (by decide +kernel : kitB "NoneType" "list" = some false)
  | .bool _ => (by decide +kernel : kitB "bool" "list" = some false)
  | .int _ => (by decide +kernel : kitB "int" "list" = some false)
  | .str _ => (by decide +kernel : kitB "str" "list" = some false)
  | .list _ => (by decide +kernel : kitB "list" "list" = some true)
  | .tuple _ => (by decide +kernel : kitB "tuple" "list" = some false)
  | .dict _ => (by decide +kernel : kitB "dict" "list" = some false)
theorem kDictD : ∀ d : D, kitB (tyN d) "dict" = some (isDictD d)
  | .none => (by decide +kernel : kitB "NoneType" "dict" = some false)
  | .bool _ => (by decide +kernel : kitB "bool" "dict" = some false)
  | .int _ => (by decide +kernel : kitB "int" "dict" = some false)
  | .str _ => (by decide +kernel : kitB "str" "dict" = some false)
  | .list _ => (by decide +kernel : kitB "list" "dict" = some false)
  | .tuple _ => (by decide +kernel : kitB "tuple" "dict" = some false)
  | .dict _ => (by decide +kernel : kitB "dict" "dict" = some true)
theorem RdR.ty {K : PySem.W.Frag} {g : Rg} {F H : Hp} (bs : Bs g F H) : ∀ {d : D} {v : V}, RdR K g F H d v → TyX K H v (.type (tyN d))
  | .none, v, h => by rw [h.non]; exact .base .non
  | .bool _, v, h => by rw [h.bool]; exact .base (.bl _)
  | .int _, v, h => by rw [h.int]; exact .base (.int _)
  | .str _, v, h => by rw [h.str]; exact .base (.str _)
  | .list _, v, h => by obtain ⟨p, vs, rfl, hp, _⟩ := h.lst bs; exact .base (.lst hp)
  | .tuple _, v, h => by
    obtain ⟨p, vs, rfl, hp, _⟩ := h.tup
    rcases bs.sub.sqT hp with (hp | ⟨o, hp⟩) | ⟨o, its, n, hk, hc, _⟩
    · exact .base (.tup hp)
    · exact .fTuple hp
    · exact .kTuple hk hc
  | .dict _, v, h => by obtain ⟨p, vs, rfl, hp, _⟩ := h.dct bs; exact .base (.dK hp)
theorem de_isi {T : String} {z : Str} {f : D → Bool} {p2 p3 : Pos} (hk : ∀ d, kitB (tyN d) T = some (f d)) (hg : Gl X "isinstance") (hm : X.mg "isinstance" = none) (hg2 : Gl X z) (hm2 : X.mg z = none) (hv2 : bootBuiltins z = some (.type T)) (ha : RE X e M a ta)
    (hn : z ≠ "__name__" := by decide) (hd : (z == ("__debug__" : Str)) = false := by decide)
    (h1 : starEach [a, .Name z p3] X.env = (false, eval a X.env) :: starEach [.Name z p3] X.env := by rfl) (h2 : starEach [.Name z p3] X.env = (false, eval (.Name z p3) X.env) :: starEach [] X.env := by rfl)
    (hpl : (backTo pos (starEach [.Name z p3] X.env)).any (·.1) = false := by rfl) : DE X e M (.Call (.Name "isinstance" p2) [a, .Name z p3] [] pos) (fun ρ Q => ta ρ fun d => Q (.bool (f d))) :=
  ⟨pe_imp (pe_callB call_isi hg hm (by decide +kernel) (pa_cons ha.pe (pa_cons (pe_bltn (v := .ty T) hg2 hm2 hv2 rfl hn hd) pa_nil h2) h1) (he := h1) (hpl := hpl)) fun σ H Q ⟨g, F, ρ, sr, q⟩ => ⟨g, F, ρ, sr, ha.mono ρ _ _ (fun d hd F1 H1 v s rv =>
    ⟨v, .ty T, .type (tyN d), .type T, f d, rfl, .ty T, rv.ty (s.bs sr.bs), kit_ty (hk d), hd F1 H1 _ s rfl⟩) q⟩, fun ρ Q Q' h q => ha.mono ρ _ _ (fun d q => h _ q) q⟩
end
end PP

set_option Elab.async false
set_option linter.all false
set_option maxRecDepth 100000
set_option maxHeartbeats 4000000
namespace PP
open PySem PySem.Spec PyProof.Rows L2

/-! ### a def's promise, where nothing is being shown (so that repr may be asked) -/
structure FnG (P : Program) (w : World) (K : PySem.W.Frag) (mg : Str → Option Value) (base : Heap)
    (CX : CXT) (k : Nat) (f : Addr) (fd : FuncData) (ps : List Str) (sp : Sp) : Prop where
  len : ∀ vs H Q E, sp vs H Q E → vs.length = ps.length
  go : ∀ (A : Around) (outer : List Env) (s : Shared) (H : Hp) (ar : Args) (us : List Value) (vs : List V) (Q : VK) (E : XK),
    Room k A → A.guards = some [] → Env0 P w K mg base A outer s H → BindsTo s fd ar (ps.zip us) →
    Vals vs us → sp vs H Q E → codeAny (model P w) A (.call (.ref f) ar) (CR CX outer P w H s Q E) s
section
variable {P : Program} {w : World} {K : PySem.W.Frag} {mg : Str → Option Value} {base : Heap}
  {CX : CXT} {j k : Nat} {f : Addr} {fd : FuncData} {ps : List Str} {sp sp' : Sp}
theorem FnG.up (F : FnG P w K mg base CX j f fd ps sp) (h : j ≤ k) : FnG P w K mg base CX k f fd ps sp :=
  ⟨F.len, fun A o s H ar us vs Q E r => F.go A o s H ar us vs Q E (r.mono h)⟩
theorem FnG.imp (F : FnG P w K mg base CX k f fd ps sp) (h : ∀ vs H Q E, sp' vs H Q E → sp vs H Q E) :
    FnG P w K mg base CX k f fd ps sp' :=
  ⟨fun vs H Q E q => F.len vs H Q E (h _ _ _ _ q), fun A o s H ar us vs Q E r g e b v q =>
    F.go A o s H ar us vs Q E r g e b v (h _ _ _ _ q)⟩
/-- a def of the text by its body -/
theorem fnG_of {x qual : Str} {st : Stmt} {N : List Str} (F : Fun K x qual st f fd) (S : FnScope N ps (defScope st))
    (len : ∀ vs H Q E, sp vs H Q E → vs.length = ps.length)
    (bd : ∀ (cdv : Value) (A : Around) (outer : List Env) (s : Shared) (H : Hp) (vs : List V) (Q : VK) (E : XK),
      Room k (A.deeper (envOfC qual (defScope st) s.heap.objs.size f cdv)) →
      (A.deeper (envOfC qual (defScope st) s.heap.objs.size f cdv)).guards = some [] → sp vs H Q E →
      ∃ t, PSs (cxOf CX P w K mg base N qual (defScope st) f cdv A outer s H E) (defBody st) t ∧
        t { nx := fun _ H' => Q .non H', rt := Q } (start N vs) H) : FnG P w K mg base CX (k + 1) f fd ps sp := by
  obtain ⟨oc, od, kV, doc, pm, an, cdv, ct, osl, rfl, lk, hcd⟩ := F.ex
  refine ⟨len, fun A outer s H ar us vs Q E hr hgd e0 hb r hsp => ?_⟩
  have hl : vs.length = ps.length := len vs H Q E hsp
  have hK : K.In s.heap :=
    e0.mod.kin.keeps fun b o e => (e0.bs b o e).1
  have hlim : s.heap.NoLimit :=
    e0.mod.nolimit.keeps fun b o e => (e0.bs b o e).1
  refine codeAny_call_function hr.depth (hK _ _ lk) rfl S.co S.gen rfl (PySem.W.codeRec_of hK hcd)
    (hb _ _ _ _ (wpAny_newFunctionEnv_cells S.kind ?_ ?_))
  · rintro ⟨n, v⟩ hy
    rcases S.par n (List.of_mem_zip hy).1 with q | q
    · exact .inl q
    · refine .inr ⟨q, ?_⟩
      exact PySem.W.cellsFrom_some _ _ _ (.inl q)
  · rintro env rfl s1 x
    refine ⟨hlim.keeps x.toInCall.keep, codeAny_func ?_⟩
    obtain ⟨t, ht, hq⟩ := bd cdv A outer s H vs Q E (hr.deeper _) hgd hsp
    have I := inv_start (CX := CX) (E := E) S hr.hd e0 hl r x
    refine wpAny_mono (ht.run [] s1 _ H _ I hq) ?_ fun e s' z => z
    intro fl s' hs
    cases fl with
    | ret u =>
      obtain ⟨v, σ', H', J, rv, q⟩ := hs
      exact ⟨v, H', J.os, J.bare, J.base, J.hok, rv, q⟩
    | next =>
      obtain ⟨σ', H', J, q⟩ := hs
      exact ⟨.non, H', J.os, J.bare, J.base, J.hok, rfl, q⟩
    | brk => obtain ⟨_, _, _, q⟩ := hs; exact q.elim
    | cont => obtain ⟨_, _, _, q⟩ := hs; exact q.elim
end
section
variable {X : Cx} {CX : CXT} {k : Nat} {f : Addr} {fd : FuncData} {ps : List Str} {sp : Sp} {E : XK} {x : Str} {p pos : Pos} {a : Expr} {xs : List Expr} {t : TA}
theorem goG {pins : List (Addr × Obj)} {σ : L2.St} {H : Hp} {s : Shared} {Q : VK} {us : List Value} {vs : List V}
    (F : FnG X.prog X.w X.K X.mg X.base CX k f fd ps sp) (hr : Room k X.A) (hgd : X.A.guards = some []) (hb : Binds X.K fd ps [])
    (hx : Passes CX X E) (I : Inv X pins σ H s) (r : Vals vs us) (h : sp vs H Q E) :
    wpAny (model X.prog X.w) X.A (call (.ref f) us) (EP X pins σ Q) X.xe s := by
  have hl : (us ++ []).length = ps.length := by rw [List.append_nil, ← r.length]; exact F.len _ _ _ _ h
  have hbt := hb s us I.kIn hl
  rw [List.append_nil] at hbt
  refine wpAny_call (codeAny_mono (F.go X.A X.stack s H ⟨us, []⟩ us vs Q E hr hgd I.env0 hbt r h) ?_)
  intro res s' hq
  match res, hq with
  | .error e, hq => exact hx pins σ H s e s' I hq
  | .ok (.ret u), hq => exact I.after hq
  | .ok .next, hq => exact False.elim hq
  | .ok .brk, hq => exact False.elim hq
  | .ok .cont, hq => exact False.elim hq
theorem pe_callG (F : FnG X.prog X.w X.K X.mg X.base CX k f fd ps sp) (hr : Room k X.A) (hgd : X.A.guards = some []) (hg : Gl X x) (hm : X.mg x = some (.ref f))
    (hk : PySem.W.keepIn X.K (.ref f) = true) (hb : Binds X.K fd ps []) (hx : Passes CX X E) (ha : PA X (a :: xs) t)
    (hdb : (x == ("__debug__" : Str)) = false := by decide) (he : starEach (a :: xs) X.env = (false, eval a X.env) :: starEach xs X.env := by rfl)
    (hpl : (backTo pos (starEach xs X.env)).any (·.1) = false := by rfl) :
    PE X (.Call (.Name x p) (a :: xs) [] pos) (fun σ H Q => t σ H fun vs H1 => sp vs H1 Q E) := by
  constructor
  intro pins s σ H Q I h
  refine wpAny_Call_Name_kw (ld_glob I hg hm (PySem.W.callWith_K (h₀ := X.base) I.ok.mod.kin hk ?_ he hpl) hdb)
  refine thn (ha.run pos pins s σ H _ I h) ?_
  rintro us s1 ⟨vs, H1, I1, r, q⟩
  exact ⟨I1.kIn, goG F hr hgd hb hx I1 r q⟩
end

/-! ### promises over data -/
abbrev KF := List D → (D → Prop) → Prop
def ArgOk (K : PySem.W.Frag) (g : Rg) (F H : Hp) : Md → D → V → Prop
  | .bor, d, v => ∃ p vs ds, v = .ref p ∧ d = .list ds ∧ H p = some (.lst vs) ∧ ¬ g.mem p ∧ RpL K F ds vs
  | .dk, d, v => v = g.root ∧ IsDeck g
  | .ex, d, v => ExM K F d v
  | _, d, v => Rp K F d v
def ArgsOk (K : PySem.W.Frag) (g : Rg) (F H : Hp) : List Md → List D → List V → Prop
  | [], ds, vs => ds = [] ∧ vs = []
  | m :: ms, ds, vs => ∃ d dr v vr, ds = d :: dr ∧ vs = v :: vr ∧ ArgOk K g F H m d v ∧ ArgsOk K g F H ms dr vr
theorem ArgOk.step {K : PySem.W.Frag} {g : Rg} {F H F' H' : Hp} (s : Stp g F H F' H') : ∀ {m : Md} {d : D} {v : V}, ArgOk K g F H m d v → ArgOk K g F' H' m d v
  | .bor, _, _, ⟨p, vs, ds, h1, h2, h3, h4, h5⟩ => ⟨p, vs, ds, h1, h2, s.keep _ _ h3 h4, h4, h5.mono s.mono⟩
  | .dk, _, _, h => h
  | .val, _, _, h => Rp.mono s.mono h
  | .ex, _, _, h => ExM.mono s.mono h
  | .own, _, _, h => Rp.mono s.mono h
  | .od, _, _, h => Rp.mono s.mono h
  | .oo, _, _, h => Rp.mono s.mono h
  | .ob _ _, _, _, h => Rp.mono s.mono h
theorem ArgsOk.len {K : PySem.W.Frag} {g : Rg} {F H : Hp} : ∀ {ms : List Md} {ds : List D} {vs : List V}, ArgsOk K g F H ms ds vs → vs.length = ms.length
  | [], _, _, ⟨_, h⟩ => by subst h; rfl
  | _ :: _, _, _, ⟨d, dr, v, vr, _, e, _, r⟩ => by subst e; simp [ArgsOk.len r]
def spD (K : PySem.W.Frag) (ms : List Md) (k : KF) : Sp := fun vs H Q _ =>
  ∃ g F ds, Bs g F H ∧ ArgsOk K g F H ms ds vs ∧ k ds fun d => ∀ F' H' v, Stp g F H F' H' → Rp K F' d v → Q v H'
def rdG (K : PySem.W.Frag) (e : Ent) (M : List Md) (ms : List Md) (t : DA) : TA := fun σ H Q => ∃ g F ρ, SR K e M g F H σ ρ ∧ t ρ fun ds => ∀ F' H' vs, Stp g F H F' H' → ArgsOk K g F' H' ms ds vs → Q vs H'
structure GA (X : Cx) (e : Ent) (M : List Md) (ms : List Md) (xs : List Expr) (t : DA) : Prop where
  pa : PA X xs (rdG X.K e M ms t)
  mono : Mono t
section
variable {X : Cx} {e : Ent} {M ms : List Md} {a : Expr} {xs : List Expr} {ta : DT} {tr : DA} {pos : Pos}
theorem ga_nil : GA X e M [] [] tNilA := ⟨pa_imp pa_nil fun σ H Q ⟨g, F, ρ, sr, q⟩ => q F H [] sr.bs.refl ⟨rfl, rfl⟩, fun _ _ _ f q => f _ q⟩
theorem ga_val (ha : DE X e M a ta) (hr : GA X e M ms xs tr) (hs : starEach (a :: xs) X.env = (false, eval a X.env) :: starEach xs X.env := by rfl) : GA X e M (.val :: ms) (a :: xs) (tConsA ta tr) :=
  ⟨pa_imp (pa_cons ha.pe hr.pa hs) fun σ H Q ⟨g, F, ρ, sr, q⟩ => ⟨g, F, ρ, sr, ha.mono ρ _ _ (fun d hd F1 H1 v s1 r1 => ⟨g, F1, ρ, sr.step s1, hr.mono ρ _ _ (fun ds hq F2 H2 vs s2 r2 =>
    hq F2 H2 (v :: vs) (s1.trans s2) ⟨d, ds, v, vs, rfl, rfl, Rp.mono s2.mono r1, r2⟩) hd⟩) q⟩, fun ρ Q Q' f q => ha.mono ρ _ _ (fun x q => hr.mono ρ _ _ (fun xs q => f _ q) q) q⟩
def tBor (t : DT) : DT := fun ρ Q => t ρ fun d => match d with | .list ds => Q (.list ds) | _ => False
theorem ga_bor (ha : RE X e M a ta) (hr : GA X e M ms xs tr) (hs : starEach (a :: xs) X.env = (false, eval a X.env) :: starEach xs X.env := by rfl) : GA X e M (.bor :: ms) (a :: xs) (tConsA (tBor ta) tr) :=
  ⟨pa_imp (pa_cons ha.pe hr.pa hs) fun σ H Q ⟨g, F, ρ, sr, q⟩ => ⟨g, F, ρ, sr, ha.mono ρ _ _ (fun d hd F1 H1 v s1 r1 => by
    split at hd
    · obtain ⟨p, vs, e1, hp, m, rl⟩ := r1.lst (s1.bs sr.bs)
      exact ⟨g, F1, ρ, sr.step s1, hr.mono ρ _ _ (fun ds hq F2 H2 vs2 s2 r2 => hq F2 H2 (v :: vs2) (s1.trans s2) ⟨_, ds, v, vs2, rfl, rfl, ⟨p, vs, _, e1, rfl, s2.keep _ _ hp m, m, rl.mono s2.mono⟩, r2⟩) hd⟩
    · exact hd.elim) q⟩, fun ρ Q Q' f q => ha.mono ρ _ _ (fun x q => by
    split at q
    · exact hr.mono ρ _ _ (fun xs q => f _ q) q
    · exact q.elim) q⟩
/-- the deck -/
def tDk (i : Nat) : DT := fun ρ Q => match gt ρ i with | some d => Q .none | none => False
theorem ga_dk {i : Nat} {y : Str} (hN : X.N[i]? = some y) (hv : Vis X.env.scope y) (hr : GA X e M ms xs tr) (hm : md M i = .dk := by rfl) (hd : (y == ("__debug__" : Str)) = false := by decide) (hcd : (y == ("__classdict__" : Str)) = false := by decide)
    (hs : starEach (.Name y pos :: xs) X.env = (false, eval (.Name y pos) X.env) :: starEach xs X.env := by rfl) : GA X e M (.dk :: ms) (.Name y pos :: xs) (tConsA (tDk i) tr) :=
  ⟨pa_imp (pa_cons (pe_var hN hv hd hcd) hr.pa hs) fun σ H Q ⟨g, F, ρ, sr, q⟩ => by
    have q : tDk i ρ fun d => tr ρ fun ds => ∀ F' H' vs, Stp g F H F' H' → ArgsOk X.K g F' H' (.dk :: ms) (d :: ds) vs → Q vs H' := q
    unfold tDk at q
    split at q
    · rename_i d hd
      obtain ⟨v, h1, h2⟩ := sr.slot i d hd
      rw [hm] at h2
      exact ⟨v, h1, g, F, ρ, sr, hr.mono ρ _ _ (fun ds hq F2 H2 vs s2 r2 => hq F2 H2 (v :: vs) s2 ⟨_, ds, v, vs, rfl, rfl, h2, r2⟩) q⟩
    · exact q.elim, fun ρ Q Q' f q => by
    have q : tDk i ρ fun d => tr ρ fun ds => Q (d :: ds) := q
    show tDk i ρ fun d => tr ρ fun ds => Q' (d :: ds)
    unfold tDk at q ⊢
    split at q
    · exact hr.mono ρ _ _ (fun xs q => f _ q) q
    · exact q.elim⟩
theorem de_call {k : Nat} {f : Addr} {fd : FuncData} {ps : List Str} {y : Str} {p : Pos} {kf : KF} (F : FnG X.prog X.w X.K X.mg X.base CX0 k f fd ps (spD X.K ms kf)) (hr : Room k X.A) (hgd : X.A.guards = some []) (hg : Gl X y)
    (hm : X.mg y = some (.ref f)) (hk : PySem.W.keepIn X.K (.ref f) = true) (hb : Binds X.K fd ps []) (mo : MonoC kf) (ha : GA X e M ms (a :: xs) tr)
    (hdb : (y == ("__debug__" : Str)) = false := by decide) (he : starEach (a :: xs) X.env = (false, eval a X.env) :: starEach xs X.env := by rfl)
    (hpl : (backTo pos (starEach xs X.env)).any (·.1) = false := by rfl) : DE X e M (.Call (.Name y p) (a :: xs) [] pos) (tCl kf tr) :=
  ⟨pe_imp (pe_callG F hr hgd hg hm hk hb pass0 ha.pa hdb he hpl) fun σ H Q ⟨g, F, ρ, sr, q⟩ => ⟨g, F, ρ, sr, ha.mono ρ _ _ (fun ds hd F1 H1 vs s rv =>
    ⟨g, F1, ds, s.bs sr.bs, rv, mo _ _ _ (fun d hq F2 H2 v s2 r2 => hq F2 H2 v (s.trans s2) r2) hd⟩) q⟩, tCl_mono mo ha.mono⟩
end

/-! ### repr -/
def RprOk (d : D) : Prop := d.showable = true ∧ d.depth ≤ 64 ∧ d.shown.length ≤ sizeLine ∧ d.hasDict = false
theorem RpK.sides {K : PySem.W.Frag} {H : Hp} : ∀ {kvs : List (D × D)} {ps : List (Key × V)}, RpK K H kvs ps → kvs.map (·.1) = ps.map (fun p => keyD p.1) ∧ RpL K H (kvs.map (·.2)) (ps.map (·.2))
  | [], _, h => by have h : _ = [] := h; subst h; exact ⟨rfl, rfl⟩
  | (k, d) :: r, _, ⟨c, x, ps, e, hk, h, t⟩ => by
    subst e hk
    obtain ⟨h1, h2⟩ := RpK.sides t
    exact ⟨by simp [h1], ⟨x, _, rfl, h, h2⟩⟩
theorem keys_vals {K : PySem.W.Frag} {H : Hp} : ∀ {ps : List (Key × V)}, RpL K H (ps.map fun p => keyD p.1) (ps.map fun p => kV p.1)
  | [] => rfl
  | (.inl i, v) :: r => ⟨_, _, rfl, rfl, keys_vals⟩
  | (.inr i, v) :: r => ⟨_, _, rfl, rfl, keys_vals⟩
end PP

set_option Elab.async false
set_option linter.all false
set_option maxRecDepth 100000
set_option maxHeartbeats 4000000
namespace PP
open PySem PySem.Spec PyProof.Rows L2

theorem pairs_rel {K : Type} [DecidableEq K] {prog : Program} {w : World} {knd : PySem.KeyKind prog w K} : ∀ {es : List DictEntry} {kvs : List (K × Value)}, PySem.Pairs knd es kvs → es.map (·.val) = kvs.map (·.2) ∧ Paired (fun (k : K × Value) (u : Value) => knd.is k.1 u = true) kvs (es.map (·.key))
  | _, _, .nil => ⟨rfl, .nil⟩
  | _, _, .cons h hv t => by
    obtain ⟨h1, h2⟩ := pairs_rel t
    exact ⟨by simp [h1, hv], .cons h h2⟩
theorem kv_keys {prog : Program} {w : World} : ∀ {ps : List (Key × V)} {vs : List (Key × Value)} {us : List Value}, KV ps vs → Paired (fun (k : Key × Value) (u : Value) => (mixKind prog w).is k.1 u = true) vs us → Vals (ps.map fun p => kV p.1) us
  | _, _, _, .nil, .nil => .nil
  | _, _, _, .cons h t, .cons k r => .cons (by show L2.RelV (kV _) _; rw [h.1]; exact keyIs_rel k) (kv_keys t r)
theorem kv_vals : ∀ {ps : List (Key × V)} {vs : List (Key × Value)}, KV ps vs → Vals (ps.map (·.2)) (vs.map (·.2))
  | _, _, .nil => .nil
  | _, _, .cons h t => .cons h.2 (kv_vals t)

theorem keys_reads {h : Heap} {z0 : Addr} : ∀ {ps : List (Key × V)} {us : List Value}, Vals (ps.map fun p => kV p.1) us → ∃ as, ReadsAll h us (ps.map fun p => keyD p.1) as ∧ (∀ b ∈ as, b ≠ z0)
  | [], _, r => by cases r; exact ⟨_, ReadsAll.nil, fun _ z => nomatch z⟩
  | (.inl i, v) :: ps, _, r => by
    cases r with
    | cons r1 r2 =>
      obtain ⟨t, rfl⟩ := r1
      obtain ⟨as, q, n⟩ := keys_reads r2
      exact ⟨_, ReadsAll.cons (Reads.int i t) q, fun b hb => n b (by simpa using hb)⟩
  | (.inr i, v) :: ps, _, r => by
    cases r with
    | cons r1 r2 =>
      obtain ⟨t, rfl⟩ := r1
      obtain ⟨as, q, n⟩ := keys_reads r2
      exact ⟨_, ReadsAll.cons (Reads.str i t) q, fun b hb => n b (by simpa using hb)⟩
section
variable {X : Cx}
mutual
theorem Rp.shows {pins : List (Addr × Obj)} {σ : L2.St} {H : Hp} {s : Shared} (I : Inv X pins σ H s) {z0 : Addr} (n1 : H z0 = none) : ∀ (d : D) (v : V) (u : Value), Rp X.K H d v → RelV v u → ∃ as, Reads s.heap u d as ∧ (∀ b ∈ as, b ≠ z0)
  | .none, _, u, h, r => by
    have h : _ = V.non := h
    subst h
    cases (show u = Value.none from r)
    exact ⟨_, Reads.none, fun _ z => nomatch z⟩
  | .bool b, _, u, h, r => by
    have h : _ = V.bl b := h
    subst h
    cases (show u = Value.bool b from r)
    exact ⟨_, Reads.bool b, fun _ z => nomatch z⟩
  | .int i, _, u, h, r => by
    have h : _ = V.int i := h
    subst h
    obtain ⟨t, rfl⟩ := (show ∃ t, u = Value.int i t from r)
    exact ⟨_, Reads.int i t, fun _ z => nomatch z⟩
  | .str x, _, u, h, r => by
    have h : _ = V.str x := h
    subst h
    obtain ⟨t, rfl⟩ := (show ∃ t, u = Value.str x t from r)
    exact ⟨_, Reads.str x t, fun _ z => nomatch z⟩
  | .list ds, _, u, ⟨a, xs, e1, h, q⟩, r => by
    subst e1
    cases (show u = Value.ref a from r)
    obtain ⟨its, rv, ⟨o, k, ho, hc, _, hd⟩, _⟩ := I.list (.inl (.inl h))
    obtain ⟨as, hr, hn⟩ := Rp.showsAll I n1 ds _ its q rv
    refine ⟨_, Reads.list ho hc hd hr, fun b hb => ?_⟩
    rcases List.mem_cons.mp hb with e | hb
    · subst e; intro z; rw [z, n1] at h; cases h
    · exact hn b hb
  | .tuple ds, _, u, ⟨a, xs, e1, h, q⟩, r => by
    subst e1
    cases (show u = Value.ref a from r)
    obtain ⟨its, rv, ⟨o, ho, hc, k, hd⟩, _⟩ := I.tuple (h.sq (K := X.K))
    obtain ⟨as, hr, hn⟩ := Rp.showsAll I n1 ds _ its q rv
    exact ⟨_, Reads.tuple ho hc hd hr, hn⟩
  | .dict kvs, _, u, ⟨a, ps, e1, h, q⟩, r => by
    subst e1
    cases (show u = Value.ref a from r)
    obtain ⟨z1, z2, vs, kv, o, es, ep, ho, hx, hd, hk, hp, nd⟩ := (show ObjOk X.prog X.w H s.heap a (.dK ps) from I.hok a _ h)
    obtain ⟨e2, p2⟩ := pairs_rel hp
    obtain ⟨ks, hkv⟩ := RpK.sides q
    obtain ⟨as, r1, n2⟩ := keys_reads (h := s.heap) (kv_keys kv p2)
    rw [← ks] at r1
    obtain ⟨bs, r2, n3⟩ := RpK.shows I n1 kvs ps _ q (kv_vals kv)
    rw [← e2] at r2
    refine ⟨_, Reads.dict ho hx.1 hd r1 r2, fun b hb => ?_⟩
    rcases List.mem_append.mp hb with hb | hb
    · rcases List.mem_cons.mp hb with e | hb
      · subst e; intro z; rw [z, n1] at h; cases h
      · exact n2 b hb
    · exact n3 b hb
theorem Rp.showsAll {pins : List (Addr × Obj)} {σ : L2.St} {H : Hp} {s : Shared} (I : Inv X pins σ H s) {z0 : Addr} (n1 : H z0 = none) : ∀ (ds : List D) (vs : List V) (us : List Value), RpL X.K H ds vs → Vals vs us → ∃ as, ReadsAll s.heap us ds as ∧ (∀ b ∈ as, b ≠ z0)
  | [], _, _, h, r => by
    have h : _ = [] := h
    subst h
    cases r
    exact ⟨_, ReadsAll.nil, fun _ z => nomatch z⟩
  | d :: ds, _, _, ⟨x, xs, e1, h1, h2⟩, r => by
    subst e1
    cases r with
    | cons r1 r2 =>
      obtain ⟨as, q1, m1⟩ := Rp.shows I n1 d _ _ h1 r1
      obtain ⟨bs, q2, m2⟩ := Rp.showsAll I n1 ds _ _ h2 r2
      exact ⟨_, ReadsAll.cons q1 q2, fun b hb => (List.mem_append.mp hb).elim (m1 b) (m2 b)⟩
theorem RpK.shows {pins : List (Addr × Obj)} {σ : L2.St} {H : Hp} {s : Shared} (I : Inv X pins σ H s) {z0 : Addr} (n1 : H z0 = none) : ∀ (kvs : List (D × D)) (ps : List (Key × V)) (us : List Value), RpK X.K H kvs ps → Vals (ps.map (·.2)) us → ∃ as, ReadsAll s.heap us (kvs.map (·.2)) as ∧ (∀ b ∈ as, b ≠ z0)
  | [], _, _, h, r => by
    have h : _ = [] := h
    subst h
    cases r
    exact ⟨_, ReadsAll.nil, fun _ z => nomatch z⟩
  | (k, d) :: ds, _, _, ⟨c, x, ps, e, hk, h, t⟩, r => by
    subst e
    cases r with
    | cons r1 r2 =>
      obtain ⟨as, q1, m1⟩ := Rp.shows I n1 d _ _ h r1
      obtain ⟨bs, q2, m2⟩ := RpK.shows I n1 ds _ _ t r2
      exact ⟨_, ReadsAll.cons q1 q2, fun b hb => (List.mem_append.mp hb).elim (m1 b) (m2 b)⟩
end
def rRpr (K : PySem.W.Frag) : List V → Hp → VK → Prop := fun xs H Q => ∃ v d, xs = [v] ∧ Rp K H d v ∧ RprOk d ∧ Q (.str d.shown) H
theorem call_rpr (hgd : X.A.guards = some []) (hu : X.A.units + 80 < cLine) : CallR X (.builtin "repr") (rRpr X.K) := by
  intro pins s σ H xs us Q I r h
  obtain ⟨v, d, rfl, hr, ⟨ok1, ok2, ok3, ok4⟩, q⟩ := h
  obtain ⟨u, rfl, rv⟩ := vals1 r
  have n1 : H s.heap.objs.size = none := I.hok.fresh (Nat.le_refl _)
  have fin : ∀ h' u tk, (∀ b o, s.heap.get? b = some o → h'.get? b = some o) → EP X pins σ Q (.str d.shown u) { s with heap := h', toks := tk } := fun h' u tk hk => ⟨.str d.shown, H, I.kept hk, ⟨u, rfl⟩, q⟩
  have fin0 : EP X pins σ Q (.str d.shown s.toks) { s with toks := s.toks + 1 } := ⟨.str d.shown, H, I.tok _, ⟨_, rfl⟩, q⟩
  have byRef : ∀ a, u = .ref a → wpAny (model X.prog X.w) X.A (call (.builtin "repr") [u]) (EP X pins σ Q) X.xe s := fun a e => by
    subst e
    obtain ⟨as, rd, nm⟩ := Rp.shows I n1 d v _ hr rv
    exact repr_of_reads' rd ok1 (fun z => by rw [ok4] at z; cases z) hgd (by omega) (fun _ _ e => e) fin ok3
  cases d with
  | none =>
    have hr : v = .non := hr
    subst hr
    cases (show u = Value.none from rv)
    exact P.repr_of_none (by simpa only [PyData.shown] using fin0)
  | bool b =>
    have hr : v = .bl b := hr
    subst hr
    cases (show u = Value.bool b from rv)
    exact P.repr_of_bool (by simpa only [PyData.shown] using fin0)
  | int i =>
    have hr : v = .int i := hr
    subst hr
    obtain ⟨t, rfl⟩ := (show ∃ t, u = Value.int i t from rv)
    exact P.repr_of_int (by simpa [PyData.showable] using ok1) (by simpa only [PyData.shown] using fin0)
  | str z =>
    have hr : v = .str z := hr
    subst hr
    obtain ⟨t, rfl⟩ := (show ∃ t, u = Value.str z t from rv)
    exact P.repr_of_str (by simpa only [PyData.shown] using fin0) (by simpa only [PyData.shown] using ok3)
  | list ds => obtain ⟨a, xs, rfl, _⟩ := hr; exact byRef a rv
  | tuple ds => obtain ⟨a, xs, rfl, _⟩ := hr; exact byRef a rv
  | dict ds => obtain ⟨a, xs, rfl, _⟩ := hr; exact byRef a rv
def kRpr : KC := fun ds Q => match ds with
  | [d] => RprOk d ∧ Q (.str d.shown)
  | _ => False
theorem kRpr_mono : MonoC kRpr := fun ds Q Q' f q => by
  unfold kRpr at q ⊢
  split at q
  · exact ⟨q.1, f _ q.2⟩
  · exact q.elim
theorem says_rpr : SaysC X (rRpr X.K) kRpr := by
  intro g F H ds vs Qv q bs rv hk k
  unfold kRpr at hk
  split at hk
  · obtain ⟨v, rfl, r⟩ := rv.one
    exact ⟨v, _, rfl, r.now bs, hk.1, k _ F H _ hk.2 bs.refl rfl⟩
  · exact hk.elim
end
section
variable {X : Cx} {e : Ent} {M : List Md} {a b c : Expr} {xs : List Expr} {tA : DA} {ta tb tc : DT} {pos p : Pos}
theorem de_repr (hgd : X.A.guards = some []) (hu : X.A.units + 80 < cLine) (hg : Gl X "repr") (hm : X.mg "repr" = none) (ha : AR X e M (a :: xs) tA)
    (he : starEach (a :: xs) X.env = (false, eval a X.env) :: starEach xs X.env := by rfl) (hpl : (backTo pos (starEach xs X.env)).any (·.1) = false := by rfl) :
    DE X e M (.Call (.Name "repr" p) (a :: xs) [] pos) (tCl kRpr tA) := de_callB (call_rpr hgd hu) says_rpr kRpr_mono hg hm (by decide +kernel) ha (he := he) (hpl := hpl)

/-! ### slices -/
def cutD (xs : List D) (lo hi : Option Int) : List D := (xs.drop (HT.sIx xs.length 0 lo)).take (HT.sIx xs.length xs.length hi - HT.sIx xs.length 0 lo)
theorem RpL.cut {K : PySem.W.Frag} {H : Hp} {ds : List D} {vs : List V} (r : RpL K H ds vs) (lo hi : Option Int) : RpL K H (cutD ds lo hi) (cutV vs lo hi) := by
  unfold cutD cutV
  rw [r.length]
  exact (r.drop _).take _
abbrev DO := En → (Option Int → Prop) → Prop
def rdO (K : PySem.W.Frag) (e : Ent) (M : List Md) (t : DO) : TO := fun σ H Q => ∃ g F ρ, SR K e M g F H σ ρ ∧ t ρ fun o => ∀ F' H', Stp g F H F' H' → Q o H'
structure DPo (X : Cx) (e : Ent) (M : List Md) (o : Option Expr) (t : DO) : Prop where
  po : PO X o (rdO X.K e M t)
  mono : Mono t
theorem po_imp {o : Option Expr} {t t' : TO} (h : PO X o t) (f : ∀ σ H Q, t' σ H Q → t σ H Q) : PO X o t' := ⟨fun pins s σ H Q I hw => h.run pins s σ H Q I (f σ H Q hw)⟩
theorem dp_none : DPo X e M none (fun _ Q => Q none) := ⟨po_imp po_none fun σ H Q ⟨g, F, ρ, sr, q⟩ => q F H sr.bs.refl, fun _ _ _ f q => f _ q⟩
theorem dp_some (ha : RE X e M a ta) : DPo X e M (some a) (fun ρ Q => ta ρ fun d => match d with | .int i => Q (some i) | _ => False) :=
  ⟨po_imp (po_some ha.pe) fun σ H Q ⟨g, F, ρ, sr, q⟩ => ⟨g, F, ρ, sr, ha.mono ρ _ _ (fun d hd F1 H1 v s rv => by
    split at hd
    · exact ⟨_, rv.int, hd F1 H1 s⟩
    · exact hd.elim) q⟩, fun ρ Q Q' f q => ha.mono ρ _ _ (fun d q => by
    split at q
    · exact f _ q
    · exact q.elim) q⟩
/-- a list's slice: new -/
def tSlF (ta : DT) (tl th : DO) : DA := fun ρ Q => ta ρ fun d => tl ρ fun lo => th ρ fun hi => match d with | .list xs => Q (cutD xs lo hi) | _ => False
theorem fe_slice {lo hi : Option Expr} {tl th : DO} {p2 : Pos} (ha : RE X e M a ta) (hl : DPo X e M lo tl) (hh : DPo X e M hi th) : FE X e M (.Subscript a (.Slice lo hi none p2) pos) (tSlF ta tl th) :=
  ⟨pe_imp (pe_slice sl_list ha.pe hl.po hh.po) fun σ H Q ⟨g, F, ρ, sr, q⟩ => ⟨g, F, ρ, sr, ha.mono ρ _ _ (fun d hd F1 H1 v s1 rv => ⟨g, F1, ρ, sr.step s1, hl.mono ρ _ _ (fun lo hd F2 H2 s2 => ⟨g, F2, ρ, (sr.step s1).step s2, hh.mono ρ _ _ (fun hi hd F3 H3 s3 => by
    split at hd
    · have s := (s1.trans s2).trans s3
      obtain ⟨p, vs, rfl, hp, m, r⟩ := ((rv.step s2).step s3).lst (s.bs sr.bs)
      exact ⟨p, vs, rfl, .inl (.inl hp), fun l hn => hd F3 _ l _ (s.trans ((s.bs sr.bs).hide hn _)) (s.old hn) (s.sub.none hn) upd_same (r.cut _ _)⟩
    · exact hd.elim) hd⟩) hd⟩) q⟩, fun ρ Q Q' f q => ha.mono ρ _ _ (fun d q => hl.mono ρ _ _ (fun lo q => hh.mono ρ _ _ (fun hi q => by
    split at q
    · exact f _ q
    · exact q.elim) q) q) q⟩
/-- any slice -/
def tSl2 (ta : DT) (tl th : DO) : DT := fun ρ Q => ta ρ fun d => tl ρ fun lo => th ρ fun hi => match d with | .list xs => Q (.list (cutD xs lo hi)) | .tuple xs => Q (.tuple (cutD xs lo hi)) | _ => False
theorem cut_whole {xs : List D} {lo hi : Option Int} (h : HT.sIx xs.length 0 lo = 0 ∧ HT.sIx xs.length xs.length hi = xs.length) : cutD xs lo hi = xs := by
  unfold cutD
  rw [h.1, h.2]
  simp
theorem de_slice {lo hi : Option Expr} {tl th : DO} {p2 : Pos} (ha : RE X e M a ta) (hl : DPo X e M lo tl) (hh : DPo X e M hi th) : DE X e M (.Subscript a (.Slice lo hi none p2) pos) (tSl2 ta tl th) :=
  ⟨pe_imp (pe_slice (sl_list.or sl_tupP) ha.pe hl.po hh.po) fun σ H Q ⟨g, F, ρ, sr, q⟩ => ⟨g, F, ρ, sr, ha.mono ρ _ _ (fun d hd F1 H1 v s1 rv => ⟨g, F1, ρ, sr.step s1, hl.mono ρ _ _ (fun lo hd F2 H2 s2 => ⟨g, F2, ρ, (sr.step s1).step s2, hh.mono ρ _ _ (fun hi hd F3 H3 s3 => by
    have s := (s1.trans s2).trans s3
    have bs := s.bs sr.bs
    split at hd
    · obtain ⟨p, vs, rfl, hp, m, r⟩ := ((rv.step s2).step s3).lst bs
      exact .inl ⟨p, vs, rfl, .inl (.inl hp), fun l hn => hd (upd F3 l _) _ _ (s.trans (bs.alloc hn _)) ⟨l, _, rfl, upd_same, (r.cut _ _).mono (.new (bs.sub.none hn))⟩⟩
    · obtain ⟨p, vs, rfl, hp, r⟩ := ((rv.step s2).step s3).tup
      refine .inr ⟨p, vs, rfl, bs.sub.sqT hp, fun hw => ?_, fun _ l o hn hc hdn => hd (upd F3 l _) _ _ (s.trans (bs.alloc hn _)) ⟨l, _, rfl, FrT.new hc hdn, (r.cut _ _).mono (.new (bs.sub.none hn))⟩⟩
      rw [r.length] at hw
      have q' := hd F3 H3 (.ref p) s
      rw [cut_whole hw] at q'
      exact q' ⟨p, vs, rfl, hp, r⟩
    · exact hd.elim) hd⟩) hd⟩) q⟩, fun ρ Q Q' f q => ha.mono ρ _ _ (fun d q => hl.mono ρ _ _ (fun lo q => hh.mono ρ _ _ (fun hi q => by
    split at q
    · exact f _ q
    · exact f _ q
    · exact q.elim) q) q) q⟩

/-! ### list(range(..)) -/
def rgD (a b : Int) : List D := (List.range (b - a).toNat).map fun i => PyData.int (a + (i : Nat))
theorem RpL.rg {K : PySem.W.Frag} {H : Hp} (a b : Int) : RpL K H (rgD a b) (rgV a b) := by
  unfold rgD rgV
  have h : ∀ l : List Nat, RpL K H (l.map fun i => PyData.int (a + (i : Nat))) (l.map fun i => V.int (a + (i : Nat))) := fun l => by
    induction l with
    | nil => rfl
    | cons x l ih => exact ⟨_, _, rfl, rfl, ih⟩
  exact h _
def kRg1 (n : Int) (Q : Int → Int → Prop) : Prop := RgOk 0 n ∧ Q 0 n
theorem fe_listRg1 {p2 pos2 : Pos} (hc : X.calm = true) (hg : Gl X "list") (hm : X.mg "list" = none) (hg2 : Gl X "range") (hm2 : X.mg "range" = none) (ha : RE X e M a ta)
    (na : starEach [a] X.env = (false, eval a X.env) :: starEach [] X.env := by rfl)
    (nb : starEach [.Call (.Name "range" p2) [a] [] pos2] X.env = (false, eval (.Call (.Name "range" p2) [a] [] pos2) X.env) :: starEach [] X.env := by rfl) :
    FE X e M (.Call (.Name "list" p) [.Call (.Name "range" p2) [a] [] pos2] [] pos) (fun ρ Q => ta ρ fun d => match d with | .int n => RgOk 0 n ∧ Q (rgD 0 n) | _ => False) :=
  ⟨pe_imp (pe_listRg hc hg hm (prg_1 hg2 hm2 ha.pe na) nb) fun σ H Q ⟨g, F, ρ, sr, q⟩ => ⟨g, F, ρ, sr, ha.mono ρ _ _ (fun d hd F1 H1 v s rv => by
    split at hd
    · exact ⟨_, rv.int, hd.1, fun l hn => hd.2 F1 _ l _ (s.trans ((s.bs sr.bs).hide hn _)) (s.old hn) (s.sub.none hn) upd_same (.rg _ _)⟩
    · exact hd.elim) q⟩, fun ρ Q Q' f q => ha.mono ρ _ _ (fun d q => by
    split at q
    · exact ⟨q.1, f _ q.2⟩
    · exact q.elim) q⟩
theorem fe_listRg2 {p2 pos2 : Pos} (hc : X.calm = true) (hg : Gl X "list") (hm : X.mg "list" = none) (hg2 : Gl X "range") (hm2 : X.mg "range" = none) (ha : RE X e M a ta) (hb : RE X e M b tb)
    (na : starEach [a, b] X.env = (false, eval a X.env) :: starEach [b] X.env := by rfl) (na2 : starEach [b] X.env = (false, eval b X.env) :: starEach [] X.env := by rfl)
    (hpl : (backTo pos2 (starEach [b] X.env)).any (·.1) = false := by rfl)
    (nb : starEach [.Call (.Name "range" p2) [a, b] [] pos2] X.env = (false, eval (.Call (.Name "range" p2) [a, b] [] pos2) X.env) :: starEach [] X.env := by rfl) :
    FE X e M (.Call (.Name "list" p) [.Call (.Name "range" p2) [a, b] [] pos2] [] pos) (fun ρ Q => ta ρ fun d => tb ρ fun d' => match d, d' with | .int m, .int n => RgOk m n ∧ Q (rgD m n) | _, _ => False) :=
  ⟨pe_imp (pe_listRg hc hg hm (prg_2 hg2 hm2 ha.pe hb.pe na na2 hpl) nb) fun σ H Q ⟨g, F, ρ, sr, q⟩ => ⟨g, F, ρ, sr, ha.mono ρ _ _ (fun d hd F1 H1 v s1 rv => ⟨g, F1, ρ, sr.step s1, hb.mono ρ _ _ (fun d' hd F2 H2 v2 s2 rv2 => by
    have s := s1.trans s2
    split at hd
    · exact ⟨_, _, rv.int, rv2.int, hd.1, fun l hn => hd.2 F2 _ l _ (s.trans ((s.bs sr.bs).hide hn _)) (s.old hn) (s.sub.none hn) upd_same (.rg _ _)⟩
    · exact hd.elim) hd⟩) q⟩, fun ρ Q Q' f q => ha.mono ρ _ _ (fun d q => hb.mono ρ _ _ (fun d' q => by
    split at q
    · exact ⟨q.1, f _ q.2⟩
    · exact q.elim) q) q⟩
end
end PP

set_option Elab.async false
set_option linter.all false
set_option maxRecDepth 100000
set_option maxHeartbeats 4000000
namespace PP
open PySem PySem.Spec PyProof.Rows L2

/-! ### stores into slots -/
section
variable {K : PySem.W.Frag} {e : Ent} {M : List Md} {g : Rg} {F H F' H' : Hp} {σ : L2.St} {ρ : En}
theorem SR.lt (s : SR K e M g F H σ ρ) {i : Nat} {d : D} (h : gt ρ i = some d) : i < σ.length := by
  obtain ⟨v, q, _⟩ := s.slot i d h
  exact (List.getElem?_eq_some_iff.mp q).1
theorem set_at {σ : L2.St} {i j : Nat} {x : Option V} : (σ.set i x)[j]? = if j = i then (if i < σ.length then some x else none) else σ[j]? := by
  by_cases e : j = i
  · subst e
    rw [if_pos rfl]
    by_cases h : j < σ.length
    · rw [if_pos h, List.getElem?_set_self h]
    · rw [if_neg h, List.getElem?_eq_none (by simpa using h)]
  · rw [if_neg e, List.getElem?_set_ne (Ne.symm e)]
theorem SR.setv (s : SR K e M g F H σ ρ) {i : Nat} (hm : md M i = .val) {d : D} {v : V} (r : Rp K F d v) : SR K e M g F H (σ.set i (some v)) (sv ρ i (some d)) where
  bs := s.bs
  stp := s.stp
  grel := s.grel
  low := s.low
  solo := s.solo
  len := by rw [List.length_set, sv_len]; exact s.len
  slot := fun j d' h => by
    rw [gt_sv] at h
    by_cases hj : j = i
    · subst hj
      rw [if_pos rfl] at h
      split at h
      · rename_i hl
        cases h
        refine ⟨v, by rw [set_at, if_pos rfl, if_pos (by rw [s.len]; exact hl)], ?_⟩
        rw [hm]; exact r
      · cases h
    · rw [if_neg hj] at h
      obtain ⟨u, h1, h2⟩ := s.slot j d' h
      exact ⟨u, by rw [set_at, if_neg hj]; exact h1, h2⟩
  dis := fun j k v w p hjk h1 h2 h3 h4 h5 h6 => by
    have nj : j ≠ i := fun z => by subst z; rw [hm] at h5; exact h5
    have nk : k ≠ i := fun z => by subst z; rw [hm] at h6; exact h6
    rw [set_at, if_neg nj] at h3
    rw [set_at, if_neg nk] at h4
    rw [gt_sv, if_neg nj] at h1
    rw [gt_sv, if_neg nk] at h2
    exact s.dis j k v w p hjk h1 h2 h3 h4 h5 h6
theorem SR.setx (s : SR K e M g F H σ ρ) {i : Nat} (hm : md M i = .ex) {d : D} {v : V} (r : ExM K F d v) : SR K e M g F H (σ.set i (some v)) (sv ρ i (some d)) where
  bs := s.bs
  stp := s.stp
  grel := s.grel
  low := s.low
  solo := s.solo
  len := by rw [List.length_set, sv_len]; exact s.len
  slot := fun j d' h => by
    rw [gt_sv] at h
    by_cases hj : j = i
    · subst hj
      rw [if_pos rfl] at h
      split at h
      · rename_i hl
        cases h
        refine ⟨v, by rw [set_at, if_pos rfl, if_pos (by rw [s.len]; exact hl)], ?_⟩
        rw [hm]; exact r
      · cases h
    · rw [if_neg hj] at h
      obtain ⟨u, h1, h2⟩ := s.slot j d' h
      exact ⟨u, by rw [set_at, if_neg hj]; exact h1, h2⟩
  dis := fun j k v w p hjk h1 h2 h3 h4 h5 h6 => by
    have nj : j ≠ i := fun z => by subst z; rw [hm] at h5; exact h5
    have nk : k ≠ i := fun z => by subst z; rw [hm] at h6; exact h6
    rw [set_at, if_neg nj] at h3
    rw [set_at, if_neg nk] at h4
    rw [gt_sv, if_neg nj] at h1
    rw [gt_sv, if_neg nk] at h2
    exact s.dis j k v w p hjk h1 h2 h3 h4 h5 h6
/-- a slot's own address was there before -/
theorem SR.mineAt (s : SR K e M g F H σ ρ) {i : Nat} (hm : (md M i).mine = true) (h : gt ρ i ≠ none) : ∃ p, σ[i]? = some (some (.ref p)) ∧ H p ≠ none ∧ e.H p = none := by
  cases q : gt ρ i with
  | none => exact absurd q h
  | some d =>
    obtain ⟨v, h1, h2⟩ := s.slot i d q
    cases hq : md M i with
    | own =>
      rw [hq] at h2
      obtain ⟨p, vs, ds, e1, _, h3, _, _, h6, _⟩ := h2
      subst e1
      exact ⟨p, h1, by rw [h3]; simp, h6⟩
    | od =>
      rw [hq] at h2
      obtain ⟨p, vs, ds, e1, _, h3, _, _, h6, _⟩ := h2
      subst e1
      exact ⟨p, h1, by rw [h3]; simp, h6⟩
    | val => rw [hq] at hm; cases hm
    | ex => rw [hq] at hm; cases hm
    | bor => rw [hq] at hm; cases hm
    | dk => rw [hq] at hm; cases hm
    | oo => rw [hq] at hm; cases hm
    | ob _ _ => rw [hq] at hm; cases hm
/-- a new object of ours into a slot -/
theorem SR.setmF (s : SR K e M g F H σ ρ) (t : Stp g F H F' H') {i : Nat} {p : Addr} (hp : ∀ q, foot H' (md M i) (.ref p) q → H q = none) {d : D} (ok : SlotOk K e g F' H' (md M i) d (.ref p)) : SR K e M g F' H' (σ.set i (some (.ref p))) (sv ρ i (some d)) where
  bs := t.bs s.bs
  low := s.low.trans t.mono
  solo := s.solo
  stp := s.stp' t
  grel := s.grel
  len := by rw [List.length_set, sv_len]; exact s.len
  slot := fun j d' h => by
    rw [gt_sv] at h
    by_cases hj : j = i
    · subst hj
      rw [if_pos rfl] at h
      split at h
      · rename_i hl
        cases h
        exact ⟨_, by rw [set_at, if_pos rfl, if_pos (by rw [s.len]; exact hl)], ok⟩
      · cases h
    · rw [if_neg hj] at h
      obtain ⟨u, h1, h2⟩ := s.slot j d' h
      exact ⟨u, by rw [set_at, if_neg hj]; exact h1, h2.step t⟩
  dis := fun j k v w q hjk h1 h2 h3 h4 h5 h6 => by
    have key : ∀ {a : Nat} {u : V}, a ≠ i → gt (sv ρ i (some d)) a ≠ none → (σ.set i (some (.ref p)))[a]? = some (some u) → foot H' (md M a) u q → gt ρ a ≠ none ∧ σ[a]? = some (some u) ∧ foot H (md M a) u q ∧ H q ≠ none := fun {a u} na ha hq hf => by
      rw [gt_sv, if_neg na] at ha
      rw [set_at, if_neg na] at hq
      obtain ⟨d1, _, k1⟩ := s.slotAt ha hq
      have f1 := k1.footBack (fun b o _ hb _ hm _ _ => t.keep b o hb hm) hf
      obtain ⟨⟨o, ho⟩, _⟩ := k1.footAt f1
      exact ⟨ha, hq, f1, by rw [ho]; simp⟩
    have new : ∀ {u : V}, (σ.set i (some (.ref p)))[i]? = some (some u) → foot H' (md M i) u q → H q = none := fun {u} hq hf => by
      rw [set_at, if_pos rfl] at hq
      split at hq
      · cases hq; exact hp q hf
      · cases hq
    by_cases ej : j = i
    · have nk : k ≠ i := fun z => hjk (ej.trans z.symm)
      subst ej
      exact (key nk h2 h4 h6).2.2.2 (new h3 h5)
    · by_cases ek : k = i
      · subst ek
        exact (key ej h1 h3 h5).2.2.2 (new h4 h6)
      · obtain ⟨a1, a2, a3, _⟩ := key ej h1 h3 h5
        obtain ⟨b1, b2, b3, _⟩ := key ek h2 h4 h6
        exact s.dis j k v w q hjk a1 b1 a2 b2 a3 b3
theorem SR.setm (s : SR K e M g F H σ ρ) (t : Stp g F H F' H') {i : Nat} {p : Addr} (hp : H p = none) {d : D} (ok : SlotOk K e g F' H' (md M i) d (.ref p)) (hmi : (md M i).mine = true := by first | rfl | (simp only [*]; rfl) | assumption) : SR K e M g F' H' (σ.set i (some (.ref p))) (sv ρ i (some d)) :=
  s.setmF t (fun q h => by
    have := (foot_mine hmi).mp h
    cases this
    exact hp) ok
theorem SR.old (s : SR K e M g F H σ ρ) {p : Addr} (h : H p = none) : e.H p = none := s.stp.old h
theorem SR.nmem (s : SR K e M g F H σ ρ) {p : Addr} (h : H p = none) : ¬ g.mem p := fun m => g.dom _ s.bs.ok p m h
/-- a slot is forgotten -/
theorem SR.drop (s : SR K e M g F H σ ρ) (i : Nat) : SR K e M g F H σ (sv ρ i none) where
  bs := s.bs
  stp := s.stp
  grel := s.grel
  low := s.low
  solo := s.solo
  len := by rw [sv_len]; exact s.len
  slot := fun j d h => by
    rw [gt_sv] at h
    split at h
    · split at h <;> cases h
    · exact s.slot j d h
  dis := fun j k v w p hjk h1 h2 h3 h4 h5 h6 => by
    rw [gt_sv] at h1 h2
    refine s.dis j k v w p hjk ?_ ?_ h3 h4 h5 h6
    · split at h1
      · split at h1 <;> exact absurd rfl h1
      · exact h1
    · split at h2
      · split at h2 <;> exact absurd rfl h2
      · exact h2
theorem SR.undef (s : SR K e M g F H σ ρ) (i : Nat) : SR K e M g F H (σ.set i none) (sv ρ i none) where
  bs := s.bs
  stp := s.stp
  grel := s.grel
  low := s.low
  solo := s.solo
  len := by rw [sv_len, List.length_set]; exact s.len
  slot := fun j d h => by
    rw [gt_sv] at h
    by_cases hj : j = i
    · rw [if_pos hj] at h; split at h <;> cases h
    · rw [if_neg hj] at h
      obtain ⟨v, h1, h2⟩ := s.slot j d h
      exact ⟨v, by rw [set_at, if_neg hj]; exact h1, h2⟩
  dis := fun j k v w p hjk h1 h2 h3 h4 h5 h6 => by
    have nj : j ≠ i := fun z => by rw [gt_sv, if_pos z] at h1; split at h1 <;> exact absurd rfl h1
    have nk : k ≠ i := fun z => by rw [gt_sv, if_pos z] at h2; split at h2 <;> exact absurd rfl h2
    rw [gt_sv, if_neg nj] at h1
    rw [gt_sv, if_neg nk] at h2
    rw [set_at, if_neg nj] at h3
    rw [set_at, if_neg nk] at h4
    exact s.dis j k v w p hjk h1 h2 h3 h4 h5 h6
/-- a part of our thing at slot i changes -/
theorem SR.pokeG (s : SR K e M g F H σ ρ) {i : Nat} {d d' : D} {v : V} {p : Addr} {o : HO} (h : gt ρ i = some d) (hσ : σ[i]? = some (some v)) (hp : foot H (md M i) v p)
    (ok : SlotOk K e g F (upd H p o) (md M i) d' v) (hb : ∀ q, foot (upd H p o) (md M i) v q → foot H (md M i) v q) : SR K e M g F (upd H p o) σ (sv ρ i (some d')) := by
  have gi : gt ρ i ≠ none := by rw [h]; simp
  obtain ⟨d0, e0, k0⟩ := s.slotAt gi hσ
  obtain ⟨_, f, n, m⟩ := k0.footAt hp
  have off : ∀ j u q, j ≠ i → gt ρ j ≠ none → σ[j]? = some (some u) → foot H (md M j) u q → q ≠ p := fun j u q hj gj hu hf z => by
    subst z
    exact s.dis j i u v q hj gj gi hu hσ hf hp
  have bk : ∀ j u q, j ≠ i → gt ρ j ≠ none → σ[j]? = some (some u) → foot (upd H p o) (md M j) u q → foot H (md M j) u q := fun j u q hj gj hu hf => by
    obtain ⟨d1, _, k1⟩ := s.slotAt gj hu
    exact k1.footBack (fun a o' _ ha _ _ _ fa => by rw [upd_ne (off j u a hj gj hu fa)]; exact ha) hf
  refine ⟨⟨s.bs.sub.at f, g.loc _ _ (fun a ma => upd_ne (fun z => by subst z; exact m ma)) s.bs.ok, s.bs.out⟩, ?_, s.grel, by rw [sv_len]; exact s.len, fun j d1 hj => ?_, fun j k u w q hjk h1 h2 h3 h4 h5 h6 => ?_, s.low, s.solo⟩
  · have hm' : ¬ e.g.mem p := by
      rcases s.grel with q | ⟨q, _⟩
      · rw [← q]; exact m
      · rw [q]; exact fun z => z
    exact s.stp.poke n f hm' o
  · rw [gt_sv] at hj
    by_cases ej : j = i
    · subst ej
      rw [if_pos rfl] at hj
      split at hj
      · cases hj; exact ⟨_, hσ, ok⟩
      · cases hj
    · rw [if_neg ej] at hj
      obtain ⟨u, h1, h2⟩ := s.slot j d1 hj
      exact ⟨u, h1, h2.off fun q o' fq hq => by rw [upd_ne (off j u q ej (by rw [hj]; simp) h1 fq)]; exact hq⟩
  · have g1 : gt ρ j ≠ none := by
      rw [gt_sv] at h1
      split at h1
      · rename_i z; rw [z]; exact gi
      · exact h1
    have g2 : gt ρ k ≠ none := by
      rw [gt_sv] at h2
      split at h2
      · rename_i z; rw [z]; exact gi
      · exact h2
    have c : ∀ a u, gt ρ a ≠ none → σ[a]? = some (some u) → foot (upd H p o) (md M a) u q → foot H (md M a) u q := fun a u ga ha hf => by
      by_cases ea : a = i
      · subst ea
        rw [hσ] at ha
        cases ha
        exact hb q hf
      · exact bk a u q ea ga ha hf
    exact s.dis j k u w q hjk g1 g2 h3 h4 (c j u g1 h3 h5) (c k w g2 h4 h6)
/-- our object at slot i changes -/
theorem SR.poke (s : SR K e M g F H σ ρ) {i : Nat} {d d' : D} {p : Addr} {o : HO} (hm : (md M i).mine = true) (h : gt ρ i = some d) (hσ : σ[i]? = some (some (.ref p))) (f : F p = none) (n : e.H p = none) (m : ¬ g.mem p)
    (ok : SlotOk K e g F (upd H p o) (md M i) d' (.ref p)) : SR K e M g F (upd H p o) σ (sv ρ i (some d')) :=
  s.pokeG h hσ ((foot_mine hm).mpr rfl) ok fun q hq => (foot_mine hm).mpr ((foot_mine hm).mp hq)
end

/-! ### statements -/
structure DEnds where
  nx : En → Prop
  rt : D → Prop
  bk : En → Prop := fun _ => False
  ct : En → Prop := fun _ => False
  /-- a method returns: the value, and what stands then -/
  rs : D → En → Prop := fun _ _ => False
abbrev DTS := DEnds → En → Prop
structure DImp (d d' : DEnds) : Prop where
  nx : ∀ ρ, d.nx ρ → d'.nx ρ
  rt : ∀ x, d.rt x → d'.rt x
  bk : ∀ ρ, d.bk ρ → d'.bk ρ
  ct : ∀ ρ, d.ct ρ → d'.ct ρ
  rs : ∀ x ρ, d.rs x ρ → d'.rs x ρ := by intro x ρ h; exact h
def MonoS (t : DTS) : Prop := ∀ d d' ρ, DImp d d' → t d ρ → t d' ρ
structure Hooks (K : PySem.W.Frag) (e : Ent) (M : List Md) (d : DEnds) (E : Ends) : Prop where
  nx : ∀ g F H σ ρ, SR K e M g F H σ ρ → d.nx ρ → E.nx σ H
  rt : ∀ F H x v, Stp e.g e.F e.H F H → Rp K F x v → d.rt x → E.rt v H
  bk : ∀ g F H σ ρ, SR K e M g F H σ ρ → d.bk ρ → E.bk σ H
  ct : ∀ g F H σ ρ, SR K e M g F H σ ρ → d.ct ρ → E.ct σ H
  rs : ∀ g F H σ ρ x v, SR K e M g F H σ ρ → Rp K F x v → d.rs x ρ → E.rt v H
def rdS (K : PySem.W.Frag) (e : Ent) (M : List Md) (t : DTS) : TS := fun E σ H => ∃ g F ρ d, SR K e M g F H σ ρ ∧ t d ρ ∧ Hooks K e M d E
structure DS (X : Cx) (e : Ent) (M : List Md) (st : Stmt) (t : DTS) : Prop where
  ps : PS X st (rdS X.K e M t)
  mono : MonoS t
structure DSs (X : Cx) (e : Ent) (M : List Md) (st : List Stmt) (t : DTS) : Prop where
  ps : PSs X st (rdS X.K e M t)
  mono : MonoS t
section
variable {X : Cx} {e : Ent} {M : List Md} {st : Stmt} {rest : List Stmt} {a b c : Expr} {t u : DTS} {ta tb : DT} {tA : DB} {pos : Pos}
theorem Hooks.next {K : PySem.W.Frag} {d : DEnds} {E : Ends} (h : Hooks K e M d E) : Hooks K e M { d with nx := u d } { E with nx := rdS K e M u E } :=
  ⟨fun g F H σ ρ s q => ⟨g, F, ρ, d, s, q, h⟩, h.rt, h.bk, h.ct, h.rs⟩
theorem dss_nil : DSs X e M [] (fun d ρ => d.nx ρ) := ⟨pss_imp pss_nil fun E σ H ⟨g, F, ρ, d, s, q, h⟩ => h.nx g F H σ ρ s q, fun d d' ρ i q => i.nx ρ q⟩
def tSq (t u : DTS) : DTS := fun d ρ => t { d with nx := u d } ρ
theorem dss_cons (h1 : DS X e M st t) (h2 : DSs X e M rest u) : DSs X e M (st :: rest) (tSq t u) :=
  ⟨pss_imp (pss_cons h1.ps h2.ps) fun E σ H ⟨g, F, ρ, d, s, q, h⟩ => ⟨g, F, ρ, _, s, q, h.next⟩,
    fun d d' ρ i q => h1.mono { d with nx := u d } { d' with nx := u d' } ρ ⟨fun ρ q => h2.mono d d' ρ i q, i.rt, i.bk, i.ct, i.rs⟩ q⟩
theorem dss_one (h1 : DS X e M st t) : DSs X e M [st] t := ⟨pss_imp (pss_one h1.ps) fun E σ H q => q, h1.mono⟩
theorem ds_pass : DS X e M (.Pass pos) (fun d ρ => d.nx ρ) := ⟨ps_imp ps_pass fun E σ H ⟨g, F, ρ, d, s, q, h⟩ => h.nx g F H σ ρ s q, fun d d' ρ i q => i.nx ρ q⟩
theorem ds_break : DS X e M (.Break pos) (fun d ρ => d.bk ρ) := ⟨ps_imp ps_break fun E σ H ⟨g, F, ρ, d, s, q, h⟩ => h.bk g F H σ ρ s q, fun d d' ρ i q => i.bk ρ q⟩
theorem ds_continue : DS X e M (.Continue pos) (fun d ρ => d.ct ρ) := ⟨ps_imp ps_continue fun E σ H ⟨g, F, ρ, d, s, q, h⟩ => h.ct g F H σ ρ s q, fun d d' ρ i q => i.ct ρ q⟩
theorem ds_ret (ha : DE X e M a ta) : DS X e M (.Return (some a) pos) (fun d ρ => ta ρ d.rt) :=
  ⟨ps_imp (ps_ret ha.pe) fun E σ H ⟨g, F, ρ, d, s, q, h⟩ => ⟨g, F, ρ, s, ha.mono ρ _ _ (fun x hx F' H' v t r => h.rt F' H' x v (s.stp' t) r hx) q⟩, fun d d' ρ i q => ha.mono ρ _ _ i.rt q⟩
theorem ds_retN : DS X e M (.Return none pos) (fun d ρ => d.rt .none) :=
  ⟨ps_imp ps_retN fun E σ H ⟨g, F, ρ, d, s, q, h⟩ => h.rt F H .none .non s.stp rfl q, fun d d' ρ i q => i.rt _ q⟩
theorem ds_retS (ha : DE X e M a ta) : DS X e M (.Return (some a) pos) (fun d ρ => ta ρ fun x => d.rs x ρ) :=
  ⟨ps_imp (ps_ret ha.pe) fun E σ H ⟨g, F, ρ, d, s, q, h⟩ => ⟨g, F, ρ, s, ha.mono ρ _ _ (fun x hx F' H' v t r => h.rs g F' H' σ ρ x v (s.step t) r hx) q⟩, fun d d' ρ i q => ha.mono ρ _ _ (fun x q => i.rs x ρ q) q⟩
theorem ds_retSN : DS X e M (.Return none pos) (fun d ρ => d.rs .none ρ) :=
  ⟨ps_imp ps_retN fun E σ H ⟨g, F, ρ, d, s, q, h⟩ => h.rs g F H σ ρ .none .non s rfl q, fun d d' ρ i q => i.rs _ _ q⟩
/-- return of a list of ours -/
theorem ds_retO {i : Nat} {y : Str} {p2 : Pos} (hN : X.N[i]? = some y) (hv : Vis X.env.scope y) (hm : md M i = .own := by rfl) (hd : (y == ("__debug__" : Str)) = false := by decide) (hcd : (y == ("__classdict__" : Str)) = false := by decide) :
    DS X e M (.Return (some (.Name y p2)) pos) (fun d ρ => tV i ρ d.rt) :=
  ⟨ps_imp (ps_ret (pe_var hN hv hd hcd)) fun E σ H ⟨g, F, ρ, d, s, q, h⟩ => by
    have q : tV i ρ d.rt := q
    unfold tV at q
    split at q
    · rename_i x hx
      obtain ⟨v, h1, h2⟩ := s.slot i x hx
      rw [hm] at h2
      obtain ⟨p, vs, ds, e1, e2, h3, h4, h5, h6, h7⟩ := h2
      subst e1 e2
      exact ⟨_, h1, h.rt (upd F p (.lst vs)) H (.list ds) _ (s.stp.freeze h6 h5 h3) ⟨p, vs, rfl, upd_same, h4.mono (.new h5)⟩ q⟩
    · exact q.elim, fun d d' ρ j q => tV_mono i ρ _ _ j.rt q⟩
theorem ds_if {xs ys : List Stmt} (hc : DC X e M c tA) (ha : DSs X e M xs t) (hb : DSs X e M ys u) : DS X e M (.If c xs ys pos) (fun d ρ => tA ρ fun b => if b = true then t d ρ else u d ρ) :=
  ⟨ps_imp (ps_if hc.pt ha.ps hb.ps) fun E σ H ⟨g, F, ρ, d, s, q, h⟩ => ⟨g, F, ρ, s, hc.mono ρ _ _ (fun b hb F' H' s' => by
    cases b with
    | true => exact ⟨g, F', ρ, d, s.step s', hb, h⟩
    | false => exact ⟨g, F', ρ, d, s.step s', hb, h⟩) q⟩, fun d d' ρ i q => hc.mono ρ _ _ (fun b q => by
    cases b with
    | true => exact ha.mono d d' ρ i q
    | false => exact hb.mono d d' ρ i q) q⟩
theorem ds_expr (ha : DE X e M a ta) (hs : swapsWith a none pos.line X.env = pure false := by rfl) : DS X e M (.Expr a pos) (fun d ρ => ta ρ fun _ => d.nx ρ) :=
  ⟨ps_imp (ps_expr ha.pe hs) fun E σ H ⟨g, F, ρ, d, s, q, h⟩ => ⟨g, F, ρ, s, ha.mono ρ _ _ (fun x hx F' H' v t r => h.nx g F' H' σ ρ (s.step t) hx) q⟩, fun d d' ρ i q => ha.mono ρ _ _ (fun _ q => i.nx ρ q) q⟩

/-! ### stores -/
theorem ds_set {i : Nat} {y : Str} {p2 : Pos} (hN : X.N.Nodup) (hi : X.N[i]? = some y) (hx : Loc X.env.scope y) (ha : DE X e M a ta) (hm : md M i = .val := by rfl) (hs : swapsWith a (some (.Name y p2)) pos.line X.env = pure false := by rfl)
    (hf : X.fn y = true ∨ X.env.scope.names.lookup y = some .local := by first | exact .inl rfl | exact .inr rfl | assumption) : DS X e M (.Assign [.Name y p2] a pos) (fun d ρ => ta ρ fun x => d.nx (sv ρ i (some x))) :=
  ⟨ps_imp (L2.ps_set hN hi hx ha.pe hs hf) fun E σ H ⟨g, F, ρ, d, s, q, h⟩ => ⟨g, F, ρ, s, ha.mono ρ _ _ (fun x hx F' H' v t r => h.nx g F' H' _ _ ((s.step t).setv hm r) hx) q⟩, fun d d' ρ i q => ha.mono ρ _ _ (fun _ q => i.nx _ q) q⟩
end
end PP

set_option Elab.async false
set_option linter.all false
set_option maxRecDepth 100000
set_option maxHeartbeats 4000000
namespace PP
open PySem PySem.Spec PyProof.Rows L2

section
variable {X : Cx} {e : Ent} {M : List Md} {st : Stmt} {rest : List Stmt} {a b c : Expr} {t u : DTS} {ta tb : DT} {tA : DB} {pos : Pos}
/-- a new list into a slot of ours -/
theorem ds_setO {i : Nat} {y : Str} {p2 : Pos} {tF : DA} (hN : X.N.Nodup) (hi : X.N[i]? = some y) (hx : Loc X.env.scope y) (ha : FE X e M a tF) (hm : md M i = .own := by rfl) (hs : swapsWith a (some (.Name y p2)) pos.line X.env = pure false := by rfl)
    (hf : X.fn y = true ∨ X.env.scope.names.lookup y = some .local := by first | exact .inl rfl | exact .inr rfl | assumption) : DS X e M (.Assign [.Name y p2] a pos) (fun d ρ => tF ρ fun xs => d.nx (sv ρ i (some (.list xs)))) :=
  ⟨ps_imp (L2.ps_set hN hi hx ha.pe hs hf) fun E σ H ⟨g, F, ρ, d, s, q, h⟩ => ⟨g, F, ρ, s, ha.mono ρ _ _ (fun xs hx F' H' p vs t hp hf hh r =>
    h.nx g F' H' _ _ (s.setm t hp (by rw [hm]; exact ⟨p, vs, xs, rfl, rfl, hh, r, hf, s.old hp, s.nmem hp⟩)) hx) q⟩, fun d d' ρ i q => ha.mono ρ _ _ (fun _ q => i.nx _ q) q⟩

/-! ### targets -/
abbrev DG := D → En → (En → Prop) → Prop
abbrev DGs := List D → En → (En → Prop) → Prop
def Same' (L : List Nat) (σ σ' : L2.St) : Prop := σ'.length = σ.length ∧ ∀ j, j ∉ L → σ'[j]? = σ[j]?
def rdTg (K : PySem.W.Frag) (e : Ent) (M : List Md) (L : List Nat) (t : DG) : TG := fun v σ H Q => ∃ g F ρ d, SR K e M g F H σ ρ ∧ Rp K F d v ∧ t d ρ fun ρ' => ∀ F' H' σ', Stp g F H F' H' → SR K e M g F' H' σ' ρ' → Same' L σ σ' → Q σ' H'
def rdTgs (K : PySem.W.Frag) (e : Ent) (M : List Md) (L : List Nat) (t : DGs) : TGs := fun vs σ H Q => ∃ g F ρ ds, SR K e M g F H σ ρ ∧ RpL K F ds vs ∧ t ds ρ fun ρ' => ∀ F' H' σ', Stp g F H F' H' → SR K e M g F' H' σ' ρ' → Same' L σ σ' → Q σ' H'
def MonoG {α : Type} (t : α → En → (En → Prop) → Prop) : Prop := ∀ x ρ (Q Q' : En → Prop), (∀ ρ, Q ρ → Q' ρ) → t x ρ Q → t x ρ Q'
structure GT (X : Cx) (e : Ent) (M : List Md) (L : List Nat) (tg : Expr) (t : DG) : Prop where
  pg : PG X tg (rdTg X.K e M L t)
  mono : MonoG t
structure GTs (X : Cx) (e : Ent) (M : List Md) (L : List Nat) (tg : List Expr) (t : DGs) : Prop where
  pg : PGs X tg (rdTgs X.K e M L t)
  mono : MonoG t
theorem pg_imp {x : Expr} {t t' : TG} (h : PG X x t) (f : ∀ v σ H Q, t' v σ H Q → t v σ H Q) : PG X x t' := ⟨fun pins s σ H v u Q I r hw => h.run pins s σ H v u Q I r (f v σ H Q hw)⟩
theorem pgs_imp {x : List Expr} {t t' : TGs} (h : PGs X x t) (f : ∀ v σ H Q, t' v σ H Q → t v σ H Q) : PGs X x t' := ⟨fun pins s σ H v u Q I r hw => h.run pins s σ H v u Q I r (f v σ H Q hw)⟩
def gN (i : Nat) : DG := fun d ρ Q => Q (sv ρ i (some d))
theorem gt_name {i : Nat} {y : Str} {L : List Nat} (hN : X.N.Nodup) (hi : X.N[i]? = some y) (hx : Loc X.env.scope y) (hm : md M i = .val := by rfl) (hL : i ∈ L := by simp)
    (hf : X.fn y = true ∨ X.env.scope.names.lookup y = some .local := by first | exact .inl rfl | exact .inr rfl | assumption) : GT X e M L (.Name y pos) (gN i) :=
  ⟨pg_imp (pg_name hN hi hx hf) fun v σ H Q ⟨g, F, ρ, d, s, r, q⟩ => q F H _ s.bs.refl (s.setv hm r) ⟨by simp, fun j hj => by
    rw [set_at, if_neg (fun z => hj (by subst z; exact hL))]⟩, fun _ _ _ _ f q => f _ q⟩
def gNilD : DGs := fun ds ρ Q => match ds with | [] => Q ρ | _ => False
def gConsD (t : DG) (u : DGs) : DGs := fun ds ρ Q => match ds with | d :: r => t d ρ fun ρ' => u r ρ' Q | _ => False
theorem Same'.refl {L : List Nat} {σ : L2.St} : Same' L σ σ := ⟨rfl, fun _ _ => rfl⟩
theorem Same'.trans {L : List Nat} {σ σ1 σ2 : L2.St} (h : Same' L σ σ1) (h' : Same' L σ1 σ2) : Same' L σ σ2 := ⟨h'.1.trans h.1, fun j n => (h'.2 j n).trans (h.2 j n)⟩
theorem gts_nil {L : List Nat} : GTs X e M L [] gNilD :=
  ⟨pgs_imp pgs_nil fun vs σ H Q ⟨g, F, ρ, ds, s, r, q⟩ => by
    have q : gNilD ds ρ _ := q
    unfold gNilD at q
    split at q
    · exact ⟨r, q F H σ s.bs.refl s .refl⟩
    · exact q.elim, fun x ρ Q Q' f q => by
    unfold gNilD at q ⊢
    split at q
    · exact f _ q
    · exact q.elim⟩
theorem gts_cons {L : List Nat} {x : Expr} {xs : List Expr} {t : DG} {u : DGs} (h1 : GT X e M L x t) (h2 : GTs X e M L xs u) (hs : (assignEach (x :: xs) X.env).map (·.2) = assign x X.env :: (assignEach xs X.env).map (·.2) := by rfl) : GTs X e M L (x :: xs) (gConsD t u) :=
  ⟨pgs_imp (pgs_cons h1.pg h2.pg hs) fun vs σ H Q ⟨g, F, ρ, ds, s, r, q⟩ => by
    have q : gConsD t u ds ρ _ := q
    unfold gConsD at q
    match ds, r, q with
    | d :: dr, r, q =>
      obtain ⟨v, vr, rfl, r1, r2⟩ := r
      exact ⟨v, vr, rfl, g, F, ρ, d, s, r1, h1.mono _ _ _ _ (fun ρ' hq F' H' σ' t' s' sm => ⟨g, F', ρ', dr, s', r2.mono t'.mono, h2.mono _ _ _ _ (fun ρ2 hq F2 H2 σ2 t2 s2 sm2 => hq F2 H2 σ2 (t'.trans t2) s2 (sm.trans sm2)) hq⟩) q⟩
    | [], r, q => exact q.elim, fun x ρ Q Q' f q => by
    unfold gConsD at q ⊢
    split at q
    · exact h1.mono _ _ _ _ (fun ρ q => h2.mono _ _ _ _ f q) q
    · exact q.elim⟩
def gTupD (n : Nat) (t : DGs) : DG := fun d ρ Q => match d with | .tuple ds => ds.length = n ∧ t ds ρ Q | _ => False
theorem gt_tup {L : List Nat} {es : List Expr} {k n : Nat} {t : DGs} (hc : X.calm = true) (h : GTs X e M L es t) (hn : (assignEach es X.env).length = n := by rfl) (hst : (assignEach es X.env).findIdx? (·.1) = none := by rfl) : GT X e M L (.Tuple es k pos) (gTupD n t) :=
  ⟨pg_imp (pg_tup hc h.pg hn hst) fun v σ H Q ⟨g, F, ρ, d, s, r, q⟩ => by
    have q : gTupD n t d ρ _ := q
    unfold gTupD at q
    split at q
    · obtain ⟨a, xs, rfl, hs, rl⟩ := r
      exact ⟨a, xs, rfl, s.bs.sub.sqT hs, by rw [rl.length]; exact q.1, g, F, ρ, _, s, rl, q.2⟩
    · exact q.elim, fun x ρ Q Q' f q => by
    unfold gTupD at q ⊢
    split at q
    · exact ⟨q.1, h.mono _ _ _ _ f q.2⟩
    · exact q.elim⟩
theorem ds_asg {L : List Nat} {tg : Expr} {g : DG} (ha : DE X e M a ta) (hg : GT X e M L tg g) (hs : swapsWithSole [tg] a pos.line X.env = pure false := by rfl) (hw : swappedStores [tg] a X.env = pure none := by rfl)
    (h1 : (assignEach [tg] X.env).map (·.2) = [assign tg X.env] := by rfl) : DS X e M (.Assign [tg] a pos) (fun d ρ => ta ρ fun x => g x ρ d.nx) :=
  ⟨ps_imp (ps_asg ha.pe hg.pg hs hw h1) fun E σ H ⟨g, F, ρ, d, s, q, h⟩ => ⟨g, F, ρ, s, ha.mono ρ _ _ (fun x hx F' H' v t r => ⟨g, F', ρ, x, s.step t, r, hg.mono _ _ _ _ (fun ρ' hq F2 H2 σ2 t2 s2 _ => h.nx g F2 H2 σ2 ρ' s2 hq) hx⟩) q⟩,
    fun d d' ρ i q => ha.mono ρ _ _ (fun x q => hg.mono _ _ _ _ i.nx q) q⟩

/-! ### what is walked -/
def Wk (K : PySem.W.Frag) (J : It) (ds : List D) (F0 : Hp) : Prop := ∀ g F H, Bs g F H → Le F0 F → ∀ i,
  (i < ds.length → J.go i H ∧ ∀ x H', J.yld i H x H' → ∃ F', Stp g F H F' H' ∧ ∀ d, ds[i]? = some d → Rp K F' d x) ∧ (ds.length ≤ i → J.stop i H)
def rdI (K : PySem.W.Frag) (e : Ent) (M : List Md) (t : DA) : TI := fun σ H R => ∃ g F ρ, SR K e M g F H σ ρ ∧ t ρ fun ds => ∀ F' H' J, Stp g F H F' H' → Wk K J ds F' → R J H'
structure DI (X : Cx) (e : Ent) (M : List Md) (tg iter : Expr) (t : DA) : Prop where
  pi : PI X tg iter (rdI X.K e M t)
  mono : Mono t
theorem pi_imp {tg x : Expr} {t t' : TI} (h : PI X tg x t) (f : ∀ σ H R, t' σ H R → t σ H R) : PI X tg x t' := ⟨fun pins s σ H R I hw => h.run pins s σ H R I (f σ H R hw)⟩
theorem wk_list {K : PySem.W.Frag} {F : Hp} {a : Addr} {xs : List V} {ds : List D} (h : F a = some (.lst xs)) (r : RpL K F ds xs) : Wk K (Itl K a) ds F := fun g F' H' bs l i => by
  have hq : SqL K H' a xs := .inl (.inl (bs.sub _ _ (l _ _ h)))
  have hl := r.length
  refine ⟨fun hi => ?_, fun hi => ⟨xs, hq, by omega⟩⟩
  have hx : i < xs.length := by omega
  refine ⟨⟨xs, xs[i], hq, by simp [hx]⟩, fun x H2 y => ?_⟩
  obtain ⟨e1, y⟩ := y
  subst e1
  refine ⟨F', bs.refl, fun d hd => ?_⟩
  obtain ⟨v, h1, h2⟩ := (r.mono l).get hd
  have := y xs hq
  rw [h1] at this; cases this; exact h2
theorem wk_tup {K : PySem.W.Frag} {F : Hp} {a : Addr} {xs : List V} {ds : List D} (h : FrT F a xs) (r : RpL K F ds xs) : Wk K (Itt K a) ds F := fun g F' H' bs l i => by
  have hq : SqT K H' a xs := bs.sub.sqT (l.frT h)
  have hl := r.length
  refine ⟨fun hi => ?_, fun hi => ⟨xs, hq, by omega⟩⟩
  have hx : i < xs.length := by omega
  refine ⟨⟨xs, xs[i], hq, by simp [hx]⟩, fun x H2 y => ?_⟩
  obtain ⟨e1, y⟩ := y
  subst e1
  refine ⟨F', bs.refl, fun d hd => ?_⟩
  obtain ⟨v, h1, h2⟩ := (r.mono l).get hd
  have := y xs hq
  rw [h1] at this; cases this; exact h2
/-- a list or a tuple -/
def iSeq (K : PySem.W.Frag) (tl : TE) : TI := fun σ H R => tl σ H fun x H1 =>
  (∃ a, x = .ref a ∧ (∃ xs, SqL K H1 a xs) ∧ R (Itl K a) H1) ∨ (∃ a, x = .ref a ∧ (∃ xs, SqT K H1 a xs) ∧ R (Itt K a) H1)
theorem pi_seq {tg l : Expr} {tl : TE} (hl : PE X l tl) : PI X tg l (iSeq X.K tl) := by
  constructor
  intro pins s σ H R I h
  refine thn (hl.run pins s σ H _ I h) ?_
  rintro v s1 ⟨x, H1, I1, r1, q1⟩
  have kp : Inv X pins σ H1 { s1 with heap := s1.heap.push { cls := .type "list_iterator", data := .fields #[] } } := I1.kept (t' := s1.toks) fun b o z => Heap.get?_push_of_some _ z
  rcases q1 with ⟨a, rfl, ⟨xs, hq⟩, q⟩ | ⟨a, rfl, ⟨xs, hq⟩, q⟩
  · cases r1
    obtain ⟨its, rv, p, hz⟩ := I1.list hq
    refine wpAny_pyIter_list p.isList ⟨s1.heap.objs.size, [s1.heap.objs.size], _, _, H1, rfl, I1.kept (t' := s1.toks) ?_, turn_list a _, ⟨_, Heap.get?_push_size _ rfl, rfl, rfl⟩, ?_, q⟩
    · intro b o z; exact Heap.get?_push_of_some _ z
    · intro b hb
      rw [List.mem_singleton.mp hb]
      exact I1.fpOk (Nat.le_refl _) (I1.hok.fresh (Nat.le_refl _))
  · cases r1
    obtain ⟨its, rv, p, hz⟩ := I1.tuple hq
    refine wpAny_pyIter_tuple (show s1.heap.IsTuple a its.toArray from p) ⟨s1.heap.objs.size, [s1.heap.objs.size], _, _, H1, rfl, I1.kept (t' := s1.toks) ?_, turn_tuple a _, ⟨_, Heap.get?_push_size _ rfl, rfl, rfl⟩, ?_, q⟩
    · intro b o z; exact Heap.get?_push_of_some _ z
    · intro b hb
      rw [List.mem_singleton.mp hb]
      exact I1.fpOk (Nat.le_refl _) (I1.hok.fresh (Nat.le_refl _))
def tSeqI (t : DT) : DA := fun ρ Q => t ρ fun d => match d with | .list ds => Q ds | .tuple ds => Q ds | _ => False
theorem di_seq {tg : Expr} (ha : DE X e M a ta) : DI X e M tg a (tSeqI ta) :=
  ⟨pi_imp (pi_seq ha.pe) fun σ H R ⟨g, F, ρ, s, q⟩ => ⟨g, F, ρ, s, ha.mono ρ _ _ (fun d hd F' H' v t r => by
    split at hd
    · obtain ⟨p, vs, rfl, hp, rl⟩ := r
      exact .inl ⟨p, rfl, ⟨vs, .inl (.inl (t.sub _ _ hp))⟩, hd F' H' _ t (wk_list hp rl)⟩
    · obtain ⟨p, vs, rfl, hp, rl⟩ := r
      exact .inr ⟨p, rfl, ⟨vs, t.sub.sqT hp⟩, hd F' H' _ t (wk_tup hp rl)⟩
    · exact hd.elim) q⟩, fun ρ Q Q' f q => ha.mono ρ _ _ (fun d q => by
    split at q
    · exact f _ q
    · exact f _ q
    · exact q.elim) q⟩
theorem wk_rng {K : PySem.W.Frag} {F : Hp} {lo hi : Int} : Wk K (Itr lo (hi - lo).toNat) (rgD lo hi) F := fun g F' H' bs l i => by
  have hl : (rgD lo hi).length = (hi - lo).toNat := by unfold rgD; simp
  refine ⟨fun h => ⟨by show i < (hi - lo).toNat; omega, fun x H2 y => ?_⟩, fun h => by show (hi - lo).toNat ≤ i; omega⟩
  obtain ⟨e1, e2⟩ := y
  subst e1 e2
  refine ⟨F', bs.refl, fun d hd => ?_⟩
  unfold rgD at hd
  rw [List.getElem?_map, List.getElem?_range (by omega)] at hd
  cases hd
  rfl
def RgI (j : Int) : Prop := -(2 ^ 62) ≤ j ∧ j < 2 ^ 62
theorem di_range1 {tg : Expr} {p : Pos} (hg : Gl X "range") (hm : X.mg "range" = none) (ha : RE X e M a ta) (hs : starEach [a] X.env = [(false, eval a X.env)] := by rfl) :
    DI X e M tg (.Call (.Name "range" p) [a] [] pos) (fun ρ Q => ta ρ fun d => match d with | .int n => RgI n ∧ Q (rgD 0 n) | _ => False) :=
  ⟨pi_imp (pi_range1 hg hm (pa_cons ha.pe pa_nil hs) hs) fun σ H R ⟨g, F, ρ, s, q⟩ => ⟨g, F, ρ, s, ha.mono ρ _ _ (fun d hd F' H' v t r => by
    split at hd
    · rename_i n
      refine ⟨n, by rw [r.int], hd.1.1, hd.1.2, ?_⟩
      have w := wk_rng (K := X.K) (F := F') (lo := 0) (hi := n)
      rw [Int.sub_zero] at w
      exact hd.2 F' H' _ t w
    · exact hd.elim) q⟩, fun ρ Q Q' f q => ha.mono ρ _ _ (fun d q => by
    split at q
    · exact ⟨q.1, f _ q.2⟩
    · exact q.elim) q⟩
theorem di_range2 {tg : Expr} {p : Pos} (hg : Gl X "range") (hm : X.mg "range" = none) (ha : RE X e M a ta) (hb : RE X e M b tb) (hs : starEach [a, b] X.env = [(false, eval a X.env), (false, eval b X.env)] := by rfl) (hs2 : starEach [b] X.env = [(false, eval b X.env)] := by rfl)
    (hs3 : starEach [a, b] X.env = (false, eval a X.env) :: starEach [b] X.env := by rfl) (hs4 : starEach [b] X.env = (false, eval b X.env) :: starEach [] X.env := by rfl) :
    DI X e M tg (.Call (.Name "range" p) [a, b] [] pos) (fun ρ Q => ta ρ fun d => tb ρ fun d' => match d, d' with | .int m, .int n => (RgI m ∧ RgI n) ∧ Q (rgD m n) | _, _ => False) :=
  ⟨pi_imp (pi_range2 hg hm (pa_cons ha.pe (pa_cons hb.pe pa_nil hs4) hs3) hs hs2) fun σ H R ⟨g, F, ρ, s, q⟩ => ⟨g, F, ρ, s, ha.mono ρ _ _ (fun d hd F1 H1 v t1 r1 => ⟨g, F1, ρ, s.step t1, hb.mono ρ _ _ (fun d' hd F2 H2 v2 t2 r2 => by
    split at hd
    · rename_i m _ n _
      exact ⟨_, _, by rw [r1.int, r2.int], ⟨hd.1.1.1, hd.1.1.2, hd.1.2.1, hd.1.2.2⟩, hd.2 F2 H2 _ (t1.trans t2) wk_rng⟩
    · exact hd.elim) hd⟩) q⟩, fun ρ Q Q' f q => ha.mono ρ _ _ (fun d q => hb.mono ρ _ _ (fun d' q => by
    split at q
    · exact ⟨q.1, f _ q.2⟩
    · exact q.elim) q) q⟩

/-! ### for, while -/
theorem SR.relow {K : PySem.W.Frag} {e : Ent} {M : List Md} {g : Rg} {F H B : Hp} {σ : L2.St} {ρ : En} {Fb : Hp} (s : SR K (e.low Fb) M g F H σ ρ) (l : Le B F) : SR K (e.low B) M g F H σ ρ :=
  ⟨s.bs, s.stp, s.grel, s.len, s.slot, s.dis, l, s.solo⟩
theorem pg_any {α : Type} {x : Expr} {t : α → TG} (h : ∀ B, PG X x (t B)) : PG X x (fun v σ H Q => ∃ B, t B v σ H Q) := ⟨fun pins s σ H v u Q I r ⟨B, q⟩ => (h B).run pins s σ H v u Q I r q⟩
theorem pss_any {α : Type} {x : List Stmt} {t : α → TS} (h : ∀ B, PSs X x (t B)) : PSs X x (fun E σ H => ∃ B, t B E σ H) := ⟨fun pins s σ H E I ⟨B, q⟩ => (h B).run pins s σ H E I q⟩
def forD (tg : DG) (tb : DTS) (d : DEnds) : List D → En → Prop
  | [], ρ => d.nx ρ
  | x :: xs, ρ => tg x ρ fun ρ' => tb { nx := forD tg tb d xs, ct := forD tg tb d xs, bk := d.nx, rt := d.rt, rs := d.rs } ρ'
theorem forD_mono {tg : DG} {tb : DTS} (hg : MonoG tg) (hb : MonoS tb) {d d' : DEnds} (i : DImp d d') : ∀ xs ρ, forD tg tb d xs ρ → forD tg tb d' xs ρ
  | [], ρ, q => i.nx ρ q
  | x :: xs, ρ, q => hg _ _ _ _ (fun ρ' q => hb { nx := forD tg tb d xs, ct := forD tg tb d xs, bk := d.nx, rt := d.rt, rs := d.rs } { nx := forD tg tb d' xs, ct := forD tg tb d' xs, bk := d'.nx, rt := d'.rt, rs := d'.rs } _ ⟨fun ρ q => forD_mono hg hb i xs ρ q, i.rt, i.nx, fun ρ q => forD_mono hg hb i xs ρ q, i.rs⟩ q) q
theorem ds_for {L : List Nat} {tg iter : Expr} {body : List Stmt} {tI : DA} {g : DG} (hp : PassesOwn (model X.prog X.w) X.A X.env X.xe) (hc : X.calm = true) (hi : DI X e M tg iter tI) (hg : ∀ B, GT X (e.low B) M L tg g) (hb : ∀ B, DSs X (e.low B) M body t)
    (hs : ∀ x, foldedSetIterable iter X.env x = pure x := by intro _; rfl) : DS X e M (.For tg iter body [] pos) (fun d ρ => tI ρ fun xs => forD g t d xs ρ) :=
  ⟨ps_imp (ps_for hp hc hi.pi (pg_any fun B => (hg B).pg) (pss_any fun B => (hb B).ps) hs) fun E σ H ⟨gg, F, ρ, d, s, q, h⟩ => ⟨gg, F, ρ, s, hi.mono ρ _ _ (fun ds hd F0 H0 J t0 w => by
    refine ⟨fun i m σ H => ∃ g1 F1 ρ1, SR X.K (e.low F0) M g1 F1 H σ ρ1 ∧ i ≤ ds.length ∧ m = ds.length - i ∧ forD g t d (ds.drop i) ρ1, ⟨_, gg, F0, ρ, (s.step t0).relow (.refl _), Nat.zero_le _, rfl, hd⟩, ?_⟩
    rintro i m σ1 H1 ⟨g1, F1, ρ1, s1, hi1, rfl, q1⟩
    have base : Le e.Fb F0 := s.low.trans t0.mono
    have hk : Hooks X.K (e.low F0) M { nx := fun ρ => d.nx ρ, ct := fun _ => False, bk := fun _ => False, rt := d.rt, rs := d.rs } E :=
      ⟨fun g F H σ ρ s2 q => h.nx g F H σ ρ (s2.relow (base.trans s2.low)) q, fun F H x v st r q => h.rt F H x v st r q, fun _ _ _ _ _ _ z => z.elim, fun _ _ _ _ _ _ z => z.elim, fun g F H σ ρ x v s2 r q => h.rs g F H σ ρ x v (s2.relow (base.trans s2.low)) r q⟩
    obtain ⟨w1, w2⟩ := w g1 F1 H1 s1.bs s1.low i
    by_cases hlt : i < ds.length
    · obtain ⟨go, yl⟩ := w1 hlt
      have ed : ds.drop i = ds[i] :: ds.drop (i + 1) := List.drop_eq_getElem_cons hlt
      rw [ed] at q1
      refine .inr ⟨go, fun σ' H' => ∃ g2 F2 ρ2, SR X.K (e.low F0) M g2 F2 H' σ' ρ2 ∧ forD g t d (ds.drop (i + 1)) ρ2, ?_, ?_⟩
      · rintro σ' H' ⟨g2, F2, ρ2, s2, q2⟩
        exact ⟨_, by omega, g2, F2, ρ2, s2, hlt, rfl, q2⟩
      · intro x H2 hy
        obtain ⟨F2, t2, r2⟩ := yl x H2 hy
        refine ⟨F0, g1, F2, ρ1, ds[i], s1.step t2, r2 _ (by simp [hlt]), (hg F0).mono _ _ _ _ (fun ρ' hq F3 H3 σ3 t3 s3 _ => ?_) q1⟩
        exact ⟨F0, g1, F3, ρ', _, s3, hq, ⟨fun g F H σ ρ s4 q => ⟨g, F, ρ, s4, q⟩, hk.rt, fun g F H σ ρ s4 q => hk.nx g F H σ ρ s4 q, fun g F H σ ρ s4 q => ⟨g, F, ρ, s4, q⟩, hk.rs⟩⟩
    · have e2 : i = ds.length := by omega
      subst e2
      rw [List.drop_length] at q1
      exact .inl ⟨w2 (Nat.le_refl _), hk.nx g1 F1 H1 σ1 ρ1 s1 q1⟩) q⟩, fun d d' ρ i q => hi.mono ρ _ _ (fun xs q => forD_mono (hg (fun _ => none)).mono (hb (fun _ => none)).mono i xs ρ q) q⟩

/-- a while: a word and a measure -/
def whileD (tc : DB) (tb : DTS) (d : DEnds) : En → Prop := fun ρ => ∃ W : Nat → En → Prop, (∃ m, W m ρ) ∧ ∀ m ρ, W m ρ → tc ρ fun b => if b = true then tb { nx := fun ρ' => ∃ m', m' < m ∧ W m' ρ', ct := fun ρ' => ∃ m', m' < m ∧ W m' ρ', bk := d.nx, rt := d.rt, rs := d.rs } ρ else d.nx ρ
theorem ds_while {body : List Stmt} (hp : PassesOwn (model X.prog X.w) X.A X.env X.xe) (hc : DC X e M c tA) (hb : DSs X e M body t) : DS X e M (.While c body [] pos) (fun d ρ => whileD tA t d ρ) :=
  ⟨ps_imp (ps_while hp hc.pt hb.ps) fun E σ H ⟨gg, F, ρ, d, s, ⟨W, ⟨m0, w0⟩, turn⟩, h⟩ => by
    refine ⟨fun m σ H => ∃ g1 F1 ρ1, SR X.K e M g1 F1 H σ ρ1 ∧ W m ρ1, ⟨m0, gg, F, ρ, s, w0⟩, ?_⟩
    rintro m σ1 H1 ⟨g1, F1, ρ1, s1, w1⟩
    refine ⟨g1, F1, ρ1, s1, hc.mono ρ1 _ _ (fun b hb F2 H2 t2 => ?_) (turn m ρ1 w1)⟩
    cases b with
    | true =>
      refine ⟨fun σ' H' => ∃ m', m' < m ∧ ∃ g2 F2 ρ2, SR X.K e M g2 F2 H' σ' ρ2 ∧ W m' ρ2, fun σ' H' ⟨m', l, q⟩ => ⟨m', l, q⟩, g1, F2, ρ1, _, s1.step t2, hb, ?_⟩
      exact ⟨fun g F H σ ρ s4 ⟨m', l, q⟩ => ⟨m', l, g, F, ρ, s4, q⟩, h.rt, h.nx, fun g F H σ ρ s4 ⟨m', l, q⟩ => ⟨m', l, g, F, ρ, s4, q⟩, h.rs⟩
    | false => exact h.nx g1 F2 H2 σ1 ρ1 (s1.step t2) hb, fun d d' ρ i ⟨W, w0, turn⟩ => ⟨W, w0, fun m ρ w => hc.mono ρ _ _ (fun b q => by
      cases b with
      | true => exact hb.mono { nx := fun ρ' => ∃ m', m' < m ∧ W m' ρ', ct := fun ρ' => ∃ m', m' < m ∧ W m' ρ', bk := d.nx, rt := d.rt, rs := d.rs } { nx := fun ρ' => ∃ m', m' < m ∧ W m' ρ', ct := fun ρ' => ∃ m', m' < m ∧ W m' ρ', bk := d'.nx, rt := d'.rt, rs := d'.rs } ρ ⟨fun ρ q => q, i.rt, i.nx, fun ρ q => q, i.rs⟩ q
      | false => exact i.nx ρ q) (turn m ρ w)⟩⟩
end
end PP

set_option Elab.async false
set_option linter.all false
set_option maxRecDepth 100000
set_option maxHeartbeats 4000000
namespace PP
open PySem PySem.Spec PyProof.Rows L2

/-! ### list comprehensions -/
def wipeD (ρ : En) : List Nat → En
  | [] => ρ
  | v :: vs => sv (wipeD ρ vs) v none
theorem SR.wipe {K : PySem.W.Frag} {e : Ent} {M : List Md} {g : Rg} {F H : Hp} {σ : L2.St} {ρ : En} (s : SR K e M g F H σ ρ) : ∀ vs, SR K e M g F H (L2.wipe σ vs) (wipeD ρ vs)
  | [] => s
  | v :: vs => (SR.wipe s vs).undef v
theorem wipe_at : ∀ (vs : List Nat) (σ : L2.St) (j : Nat), (L2.wipe σ vs)[j]? = if j ∈ vs then (if j < σ.length then some none else none) else σ[j]?
  | [], σ, j => by simp [L2.wipe]
  | v :: vs, σ, j => by
    show ((L2.wipe σ vs).set v none)[j]? = _
    rw [set_at, wipe_at vs σ j, wipe_length]
    by_cases h : j = v
    · subst h; simp
    · simp [h]
theorem wipe_same {vs : List Nat} {σ σ' : L2.St} (h : Same' vs (L2.wipe σ vs) σ') : L2.wipe σ' vs = L2.wipe σ vs := by
  obtain ⟨h1, h2⟩ := h
  rw [wipe_length] at h1
  apply List.ext_getElem?
  intro j
  rw [wipe_at, wipe_at, h1]
  by_cases hj : j ∈ vs
  · rw [if_pos hj, if_pos hj]
  · rw [if_neg hj, if_neg hj, h2 j hj, wipe_at, if_neg hj]
def compD (tg : DG) (tt : DB) (te : DT) (Q : List D → Prop) (ρ : En) : List D → List D → Prop
  | [], acc => Q acc
  | x :: xs, acc => tg x ρ fun ρ' => tt ρ' fun b => if b = true then te ρ' fun y => compD tg tt te Q ρ xs (acc ++ [y]) else compD tg tt te Q ρ xs acc
theorem compD_mono {tg : DG} {tt : DB} {te : DT} (hg : MonoG tg) (ht : Mono tt) (he : Mono te) {Q Q' : List D → Prop} (f : ∀ x, Q x → Q' x) (ρ : En) : ∀ xs acc, compD tg tt te Q ρ xs acc → compD tg tt te Q' ρ xs acc
  | [], acc, q => f _ q
  | x :: xs, acc, q => hg _ _ _ _ (fun ρ' q => ht _ _ _ (fun b q => by
    cases b with
    | true => exact he _ _ _ (fun y q => compD_mono hg ht he f ρ xs _ q) q
    | false => exact compD_mono hg ht he f ρ xs _ q) q) q
structure DTs (X : Cx) (e : Ent) (M : List Md) (ifs : List Expr) (t : DB) : Prop where
  pt : PTs X ifs (rdB X.K e M t)
  mono : Mono t
def tYesD : DB := fun _ Q => Q true
theorem dts_nil {X : Cx} {e : Ent} {M : List Md} : DTs X e M [] tYesD :=
  ⟨⟨fun pins s σ H Q I ⟨g, F, ρ, sr, q⟩ => pts_nil.run pins s σ H Q I (q F H sr.bs.refl)⟩, fun _ _ _ f q => f _ q⟩
theorem dts_one {X : Cx} {e : Ent} {M : List Md} {c : Expr} {t : DB} (h : DC X e M c t) : DTs X e M [c] t := ⟨pts_one h.pt, h.mono⟩
def tComp (tI : DA) (tg : DG) (tt : DB) (te : DT) (vs : List Nat) : DA := fun ρ Q => tI ρ fun ds => ds.length ≤ sizeLine ∧ compD tg tt te Q (wipeD ρ vs) ds []
section
variable {X : Cx} {e : Ent} {M : List Md} {pos : Pos}
theorem comp_core {tI : DA} {tg : DG} {tt : DB} {te : DT} {vs : List Nat} (mI : Mono tI) (mg : MonoG tg) (mt : Mono tt) (me : Mono te) : ∀ σ H Q, rdF X.K e M (tComp tI tg tt te vs) σ H Q →
    tLc (rdI X.K e M tI) (rdTg X.K e M vs tg) (rdB X.K e M tt) (rdE X.K e M te) vs σ H Q := fun σ H Q ⟨g, F, ρ, s, q⟩ => ⟨g, F, ρ, s, mI ρ _ _ (fun ds hd F0 H0 J t0 w D hD => by
  obtain ⟨hz, hd⟩ := hd
  have bs0 := t0.bs s.bs
  generalize hQ : (fun (xs : List PyData) => ∀ F' H' p vs, Stp g F H F' H' → H p = none → F' p = none → H' p = some (.lst vs) → RpL X.K F' xs vs → Q (.ref p) H') = QQ at hd
  refine ⟨fun i m H1 => ∃ F1 acc av, Stp g F0 H0 F1 H1 ∧ F1 D = none ∧ H1 D = some (.lst av) ∧ RpL X.K F1 acc av ∧ acc.length ≤ i ∧ i ≤ ds.length ∧ m = ds.length - i ∧
    compD tg tt te QQ (wipeD ρ vs) (ds.drop i) acc,
    ⟨_, F0, [], [], bs0.hide hD _, bs0.sub.none hD, upd_same, rfl, Nat.zero_le _, Nat.zero_le _, rfl, hd⟩, ?_⟩
  rintro i m H1 ⟨F1, acc, av, t1, f1, h1, r1, la, hi1, rfl, q1⟩
  have t01 := t0.trans t1
  have s1 := (s.step t01).wipe vs
  have nD : ¬ g.mem D := fun z => g.dom _ bs0.ok D z hD
  obtain ⟨w1, w2⟩ := w g F1 H1 s1.bs t1.mono i
  by_cases hlt : i < ds.length
  · obtain ⟨go, yl⟩ := w1 hlt
    have ed : ds.drop i = ds[i] :: ds.drop (i + 1) := List.drop_eq_getElem_cons hlt
    rw [ed] at q1
    refine .inr ⟨go, fun H' => ∃ F2 acc av, Stp g F0 H0 F2 H' ∧ F2 D = none ∧ H' D = some (.lst av) ∧ RpL X.K F2 acc av ∧ acc.length ≤ i + 1 ∧ compD tg tt te QQ (wipeD ρ vs) (ds.drop (i + 1)) acc, ?_, ?_⟩
    · rintro H' ⟨F2, acc, av, a1, a2, a3, a4, a5, a6⟩
      exact ⟨_, by omega, F2, acc, av, a1, a2, a3, a4, a5, hlt, rfl, a6⟩
    · intro x H2 hy
      obtain ⟨F2, t2, r2⟩ := yl x H2 hy
      refine ⟨g, F2, _, ds[i], s1.step t2, r2 _ (by simp [hlt]), mg _ _ _ _ (fun ρ' hq F3 H3 σ3 t3 s3 sm => ?_) q1⟩
      refine ⟨wipe_same sm, g, F3, ρ', s3, mt _ _ _ (fun b hb F4 H4 t4 => ?_) hq⟩
      have t24 := (t2.trans t3).trans t4
      have h4 : H4 D = some (.lst av) := t24.keep _ _ h1 nD
      have f4 : F4 D = none := t24.no h1 f1
      cases b with
      | true =>
        refine L2.iteT ?_
        have hb : te ρ' fun y => compD tg tt te QQ (wipeD ρ vs) (ds.drop (i + 1)) (acc ++ [y]) := hb
        refine ⟨g, F4, ρ', s3.step t4, me _ _ _ (fun y hy F5 H5 v t5 r5 => ?_) hb⟩
        have t25 := t24.trans t5
        have h5 : H5 D = some (.lst av) := t25.keep _ _ h1 nD
        have f5 : F5 D = none := t25.no h1 f1
        have ll := r1.length
        exact ⟨av, h5, by omega, F5, acc ++ [y], av ++ [v], (t1.trans t25).poke hD f5 nD _, f5, upd_same, (r1.mono t25.mono).append (.cons r5 .nil), by simp; omega, hy⟩
      | false =>
        refine L2.iteF ?_
        have hb : compD tg tt te QQ (wipeD ρ vs) (ds.drop (i + 1)) acc := hb
        exact ⟨F4, acc, av, t1.trans t24, f4, h4, r1.mono t24.mono, by omega, hb⟩
  · have e2 : i = ds.length := by omega
    subst e2
    rw [List.drop_length, ← hQ] at q1
    exact .inl ⟨w2 (Nat.le_refl _), q1 F1 H1 D av t01 (t0.old hD) f1 h1 r1⟩) q⟩
theorem tComp_mono {tI : DA} {tg : DG} {tt : DB} {te : DT} {vs : List Nat} (mI : Mono tI) (mg : MonoG tg) (mt : Mono tt) (me : Mono te) : Mono (tComp tI tg tt te vs) := fun ρ Q Q' f q =>
  mI ρ _ _ (fun ds q => ⟨q.1, compD_mono mg mt me f _ _ _ q.2⟩) q
theorem fe_comp {elt tg iter : Expr} {ifs : List Expr} {scope : Scope} {own : List (Str × Nat)} {tI : DA} {g : DG} {tt : DB} {te : DT} (hc : X.calm = true) (hN : X.N.Nodup) (hi : DI X e M tg iter tI) (ok : BlkOk X.N X.env.scope scope own)
    (hg : ∀ (s : Shared) (H : Hp) (C : Addr) (cl : List (Str × Addr)) (fp : List Addr), GT (X.blk s H scope (compEnvC scope cl C X.env) fp) e M (own.map (·.2)) tg g)
    (ht : ∀ (s : Shared) (H : Hp) (C : Addr) (cl : List (Str × Addr)) (fp : List Addr), DTs (X.blk s H scope (compEnvC scope cl C X.env) fp) e M ifs tt)
    (he : ∀ (s : Shared) (H : Hp) (C : Addr) (cl : List (Str × Addr)) (fp : List Addr), DE (X.blk s H scope (compEnvC scope cl C X.env) fp) e M elt te) (hs : ∀ x, foldedSetIterable iter X.env x = pure x := by intro _; rfl) :
    FE X e M (.ListComp elt [⟨tg, iter, ifs, 0⟩] scope pos) (tComp tI g tt te (own.map (·.2))) :=
  have mg := (hg ⟨X.s_0.heap, X.s_0.gens, X.s_0.drawn, X.s_0.toks, X.s_0.os⟩ X.H_0 0 [] []).mono
  have mt := (ht ⟨X.s_0.heap, X.s_0.gens, X.s_0.drawn, X.s_0.toks, X.s_0.os⟩ X.H_0 0 [] []).mono
  have me := (he ⟨X.s_0.heap, X.s_0.gens, X.s_0.drawn, X.s_0.toks, X.s_0.os⟩ X.H_0 0 [] []).mono
  ⟨pe_imp (pe_lc hc hN hi.pi ok (fun s H C cl fp => (hg s H C cl fp).pg) (fun s H C cl fp => (ht s H C cl fp).pt) (fun s H C cl fp => (he s H C cl fp).pe) hs) (comp_core hi.mono mg mt me), tComp_mono hi.mono mg mt me⟩
/-- name = [..], the name's slot a value -/
theorem ds_setLc {i : Nat} {y : Str} {py spos : Pos} {elt tg iter : Expr} {ifs : List Expr} {scope : Scope} {own : List (Str × Nat)} {tI : DA} {g : DG} {tt : DB} {te : DT} (hc : X.calm = true) (hN : X.N.Nodup) (hy : X.N[i]? = some y) (hyl : X.env.scope.names.lookup y = some .local)
    (hsw : swapsWith (.ListComp elt [⟨tg, iter, ifs, 0⟩] scope pos) (some (.Name y py)) spos.line X.env = pure true) (hi : DI X e M tg iter tI) (ok : BlkOk X.N X.env.scope scope own)
    (hg : ∀ (s : Shared) (H : Hp) (C : Addr) (cl : List (Str × Addr)) (fp : List Addr), GT (X.blk s H scope (compEnvC scope cl C X.env) fp) e M (own.map (·.2)) tg g)
    (ht : ∀ (s : Shared) (H : Hp) (C : Addr) (cl : List (Str × Addr)) (fp : List Addr), DTs (X.blk s H scope (compEnvC scope cl C X.env) fp) e M ifs tt)
    (he : ∀ (s : Shared) (H : Hp) (C : Addr) (cl : List (Str × Addr)) (fp : List Addr), DE (X.blk s H scope (compEnvC scope cl C X.env) fp) e M elt te) (hm : md M i = .val ∨ md M i = .own := by first | exact .inl rfl | exact .inr rfl) (hs : ∀ x, foldedSetIterable iter X.env x = pure x := by intro _; rfl) :
    DS X e M (.Assign [.Name y py] (.ListComp elt [⟨tg, iter, ifs, 0⟩] scope pos) spos) (fun d ρ => tComp tI g tt te (own.map (·.2)) ρ fun xs => d.nx (sv ρ i (some (.list xs)))) :=
  have mg := (hg ⟨X.s_0.heap, X.s_0.gens, X.s_0.drawn, X.s_0.toks, X.s_0.os⟩ X.H_0 0 [] []).mono
  have mt := (ht ⟨X.s_0.heap, X.s_0.gens, X.s_0.drawn, X.s_0.toks, X.s_0.os⟩ X.H_0 0 [] []).mono
  have me := (he ⟨X.s_0.heap, X.s_0.gens, X.s_0.drawn, X.s_0.toks, X.s_0.os⟩ X.H_0 0 [] []).mono
  ⟨ps_imp (ps_setLc hc hN hy hyl hsw hi.pi ok (fun s H C cl fp => (hg s H C cl fp).pg) (fun s H C cl fp => (ht s H C cl fp).pt) (fun s H C cl fp => (he s H C cl fp).pe) hs) fun E σ H ⟨gg, F, ρ, d, s, q, h⟩ =>
    comp_core hi.mono mg mt me σ H _ ⟨gg, F, ρ, s, tComp_mono hi.mono mg mt me ρ _ _ (fun xs hx F' H' p vs t hp hf hh r => by
      rcases hm with hm | hm
      · have t' : Stp gg F H (upd F' p (.lst vs)) H' := t.freeze hp hf hh
        exact h.nx gg _ H' _ _ ((s.step t').setv hm (show Rp X.K _ (.list xs) (.ref p) from ⟨p, vs, rfl, upd_same, r.mono (.new hf)⟩)) hx
      · exact h.nx gg F' H' _ _ (s.setm t hp (by rw [hm]; exact ⟨p, vs, xs, rfl, rfl, hh, r, hf, s.old hp, s.nmem hp⟩)) hx) q⟩,
    fun d d' ρ j q => tComp_mono hi.mono mg mt me ρ _ _ (fun _ q => j.nx _ q) q⟩
end

end PP

set_option Elab.async false
set_option linter.all false
set_option maxRecDepth 100000
set_option maxHeartbeats 400000
namespace PP
open PySem PySem.Spec PyProof.Rows L2
/-! ### a list of ours changes -/
section
variable {X : Cx} {e : Ent} {M : List Md} {a b : Expr} {ta tb : DT} {pos p1 p2 : Pos}
theorem SR.ownAt {K : PySem.W.Frag} {g : Rg} {F H : Hp} {σ : L2.St} {ρ : En} (s : SR K e M g F H σ ρ) {i : Nat} {d : D} (h : gt ρ i = some d) (hm : md M i = .own) :
    ∃ p vs ds, d = .list ds ∧ σ[i]? = some (some (.ref p)) ∧ H p = some (.lst vs) ∧ RpL K F ds vs ∧ F p = none ∧ e.H p = none ∧ ¬ g.mem p := by
  obtain ⟨v, h1, h2⟩ := s.slot i d h
  rw [hm] at h2
  obtain ⟨p, vs, ds, e1, e2, h3, h4, h5, h6, h7⟩ := h2
  subst e1
  exact ⟨p, vs, ds, e2, h1, h3, h4, h5, h6, h7⟩
theorem SR.putL {K : PySem.W.Frag} {g : Rg} {F H : Hp} {σ : L2.St} {ρ : En} (s : SR K e M g F H σ ρ) {i : Nat} {d : D} {ds : List D} {vs : List V} {p : Addr} (hm : md M i = .own) (h : gt ρ i = some d) (hσ : σ[i]? = some (some (.ref p))) (f : F p = none) (n : e.H p = none) (m : ¬ g.mem p)
    (r : RpL K F ds vs) : SR K e M g F (upd H p (.lst vs)) σ (sv ρ i (some (.list ds))) :=
  s.poke (by rw [hm]; rfl) h hσ f n m (by rw [hm]; exact ⟨p, vs, ds, rfl, rfl, upd_same, r, f, n, m⟩)
/-- x.append(e) -/
def tApp (i : Nat) (te : DT) : DTS := fun d ρ => match gt ρ i with | some (.list xs) => te ρ fun y => xs.length < sizeLine ∧ d.nx (sv ρ i (some (.list (xs ++ [y])))) | _ => False
theorem tApp_mono {i : Nat} (m : Mono ta) : MonoS (tApp i ta) := fun d d' ρ j q => by
  unfold tApp at q ⊢
  split at q
  · exact m ρ _ _ (fun y q => ⟨q.1, j.nx _ q.2⟩) q
  · exact q.elim
theorem ds_append {i : Nat} {y : Str} {spos : Pos} (hN : X.N[i]? = some y) (hv : Vis X.env.scope y) (ha : DE X e M a ta) (hm : md M i = .own := by rfl) (hd : (y == ("__debug__" : Str)) = false := by decide) (hcd : (y == ("__classdict__" : Str)) = false := by decide)
    (h1 : starEach [a] X.env = (false, eval a X.env) :: starEach [] X.env := by rfl)
    (hE : ∀ {to : TE} {t : TA}, PE X (.Name y p1) to → PA X [a] t → PE X (.Call (.Attribute (.Name y p1) "append" p2) [a] [] pos) (tBM X.K "list" rAppend to t) := by
      intro to t h h'; exact pe_bm PySem.F.plainAttrs_list PySem.F.slot_list_append PySem.F.type_list_append mt_append h h')
    (hs : swapsWith (.Call (.Attribute (.Name y p1) "append" p2) [a] [] pos) none spos.line X.env = pure false := by rfl) : DS X e M (.Expr (.Call (.Attribute (.Name y p1) "append" p2) [a] [] pos) spos) (tApp i ta) :=
  ⟨ps_imp (ps_expr (hE (pe_var hN hv hd hcd) (pa_cons ha.pe pa_nil h1)) hs) fun E σ H ⟨g, F, ρ, d, s, q, h⟩ => by
    unfold tApp at q
    split at q
    · rename_i xs hx
      obtain ⟨p, vs, ds, e2, h1, h3, h4, h5, h6, h7⟩ := s.ownAt hx hm
      cases e2
      refine ⟨_, h1, .inl ⟨rfl, vs, .inl (.inl h3)⟩, g, F, ρ, s, ha.mono ρ _ _ (fun y ⟨hl, hn⟩ F' H' v t r => ?_) q⟩
      exact ⟨p, vs, v, rfl, rfl, t.keep _ _ h3 h7, by rw [h4.length]; exact hl, h.nx g F' _ σ _ ((s.step t).putL hm hx h1 (t.no h3 h5) h6 h7 ((h4.mono t.mono).append (.cons r .nil))) hn⟩
    · exact q.elim, tApp_mono ha.mono⟩
/-- x.extend(e) -/
def tExt (i : Nat) (te : DT) : DTS := fun d ρ => match gt ρ i with | some (.list xs) => te ρ fun y => (match y with | .list ys => xs.length + ys.length ≤ sizeLine ∧ d.nx (sv ρ i (some (.list (xs ++ ys)))) | _ => False) | _ => False
theorem tExt_mono {i : Nat} (m : Mono ta) : MonoS (tExt i ta) := fun d d' ρ j q => by
  unfold tExt at q ⊢
  split at q
  · refine m ρ _ _ (fun y q => ?_) q
    split at q
    · exact ⟨q.1, j.nx _ q.2⟩
    · exact q.elim
  · exact q.elim
theorem ds_extend {i : Nat} {y : Str} {spos : Pos} (hN : X.N[i]? = some y) (hv : Vis X.env.scope y) (ha : DE X e M a ta) (hm : md M i = .own := by rfl) (hd : (y == ("__debug__" : Str)) = false := by decide) (hcd : (y == ("__classdict__" : Str)) = false := by decide)
    (h1 : starEach [a] X.env = (false, eval a X.env) :: starEach [] X.env := by rfl)
    (hE : ∀ {to : TE} {t : TA}, PE X (.Name y p1) to → PA X [a] t → PE X (.Call (.Attribute (.Name y p1) "extend" p2) [a] [] pos) (tBM X.K "list" rExtend to t) := by
      intro to t h h'; exact pe_bm PySem.F.plainAttrs_list PySem.F.slot_list_extend PySem.F.type_list_extend mt_extend h h')
    (hs : swapsWith (.Call (.Attribute (.Name y p1) "extend" p2) [a] [] pos) none spos.line X.env = pure false := by rfl) : DS X e M (.Expr (.Call (.Attribute (.Name y p1) "extend" p2) [a] [] pos) spos) (tExt i ta) :=
  ⟨ps_imp (ps_expr (hE (pe_var hN hv hd hcd) (pa_cons ha.pe pa_nil h1)) hs) fun E σ H ⟨g, F, ρ, d, s, q, h⟩ => by
    unfold tExt at q
    split at q
    · rename_i xs hx
      obtain ⟨p, vs, ds, e2, h1, h3, h4, h5, h6, h7⟩ := s.ownAt hx hm
      cases e2
      refine ⟨_, h1, .inl ⟨rfl, vs, .inl (.inl h3)⟩, g, F, ρ, s, ha.mono ρ _ _ (fun y hy F' H' v t r => ?_) q⟩
      split at hy
      · obtain ⟨b, zs, rfl, hb, rb⟩ := r
        exact ⟨p, b, vs, zs, rfl, rfl, t.keep _ _ h3 h7, t.sub _ _ hb, by rw [h4.length, rb.length]; exact hy.1, h.nx g F' _ σ _ ((s.step t).putL hm hx h1 (t.no h3 h5) h6 h7 ((h4.mono t.mono).append rb)) hy.2⟩
      · exact hy.elim
    · exact q.elim, tExt_mono ha.mono⟩
/-- z = x.pop() -/
def tPop (i j : Nat) : DTS := fun d ρ => match gt ρ i with | some (.list xs) => (match xs[xs.length - 1]? with | some y => d.nx (sv (sv ρ i (some (.list xs.dropLast))) j (some y)) | none => False) | _ => False
theorem ds_pop {i j : Nat} {y z : Str} {p3 spos : Pos} (hNd : X.N.Nodup) (hN : X.N[i]? = some y) (hv : Vis X.env.scope y) (hj : X.N[j]? = some z) (hx : Loc X.env.scope z) (hm : md M i = .own := by rfl) (hm2 : md M j = .val := by rfl) (hd : (y == ("__debug__" : Str)) = false := by decide) (hcd : (y == ("__classdict__" : Str)) = false := by decide)
    (hE : ∀ {to : TE}, PE X (.Name y p1) to → PE X (.Call (.Attribute (.Name y p1) "pop" p2) [] [] pos) (tBM0 X.K "list" rPop to) := by
      intro to h; exact pe_bm0 PySem.F.plainAttrs_list PySem.F.slot_list_pop PySem.F.type_list_pop mt_pop h)
    (hs : swapsWith (.Call (.Attribute (.Name y p1) "pop" p2) [] [] pos) (some (.Name z p3)) spos.line X.env = pure false := by rfl)
    (hf : X.fn z = true ∨ X.env.scope.names.lookup z = some .local := by first | exact .inl rfl | exact .inr rfl | assumption) : DS X e M (.Assign [.Name z p3] (.Call (.Attribute (.Name y p1) "pop" p2) [] [] pos) spos) (tPop i j) :=
  ⟨ps_imp (L2.ps_set hNd hj hx (hE (pe_var hN hv hd hcd)) hs hf) fun E σ H ⟨g, F, ρ, d, s, q, h⟩ => by
    unfold tPop at q
    split at q
    · rename_i xs hx
      split at q
      · rename_i w hw
        obtain ⟨p, vs, ds, e2, h1, h3, h4, h5, h6, h7⟩ := s.ownAt hx hm
        cases e2
        obtain ⟨v, hv, rv⟩ := h4.get hw
        exact ⟨_, h1, .inl ⟨rfl, vs, .inl (.inl h3)⟩, p, vs, v, rfl, rfl, h3, by rw [h4.length]; exact hv, h.nx g F _ _ _ ((s.putL hm hx h1 h5 h6 h7 h4.dropLast).setv hm2 rv) q⟩
      · exact q.elim
    · exact q.elim, fun d d' ρ k q => by
    unfold tPop at q ⊢
    split at q
    · split at q
      · exact k.nx _ q
      · exact q.elim
    · exact q.elim⟩
/-- x[k] = e -/
def tPut (i : Nat) (te tk : DT) : DTS := fun d ρ => match gt ρ i with | some (.list xs) => te ρ fun y => tk ρ fun k => (match k with | .int n => (match ixN xs.length n with | some j => d.nx (sv ρ i (some (.list (xs.set j y)))) | none => False) | _ => False) | _ => False
theorem ds_put {i : Nat} {y : Str} {spos : Pos} (hN : X.N[i]? = some y) (hv : Vis X.env.scope y) (ha : DE X e M a ta) (hb : RE X e M b tb) (hm : md M i = .own := by rfl) (hd : (y == ("__debug__" : Str)) = false := by decide) (hcd : (y == ("__classdict__" : Str)) = false := by decide)
    (hE : ∀ {to ti te : TE}, PE X (.Name y p1) to → PE X b ti → PE X a te → PS X (.Assign [.Subscript (.Name y p1) b p2] a spos) (tAsg te (gSub to ti rSetL)) := by
      intro to ti te h1 h2 h3; exact ps_asg h3 (pg_sub h1 h2 set_list)) : DS X e M (.Assign [.Subscript (.Name y p1) b p2] a spos) (tPut i ta tb) :=
  ⟨ps_imp (hE (pe_var hN hv hd hcd) hb.pe ha.pe) fun E σ H ⟨g, F, ρ, d, s, q, h⟩ => by
    unfold tPut at q
    split at q
    · rename_i xs hx
      obtain ⟨p, vs, ds, e2, h1, h3, h4, h5, h6, h7⟩ := s.ownAt hx hm
      cases e2
      refine ⟨g, F, ρ, s, ha.mono ρ _ _ (fun y hy F' H' v t r => ⟨_, h1, g, F', ρ, s.step t, hb.mono ρ _ _ (fun k hk F2 H2 u t2 r2 => ?_) hy⟩) q⟩
      have t12 := t.trans t2
      split at hk
      · split at hk
        · rename_i n _ j hj
          exact ⟨p, vs, n, j, rfl, r2.int, t12.keep _ _ h3 h7, by rw [h4.length]; exact hj, h.nx g F2 _ σ _ ((s.step t12).putL hm hx h1 (t12.no h3 h5) h6 h7 ((h4.mono t12.mono).set j (r.mono t2.mono))) hk⟩
        · exact hk.elim
      · exact hk.elim
    · exact q.elim, fun d d' ρ k q => by
    unfold tPut at q ⊢
    split at q
    · refine ha.mono ρ _ _ (fun y q => hb.mono ρ _ _ (fun k' q => ?_) q) q
      split at q
      · split at q
        · exact k.nx _ q
        · exact q.elim
      · exact q.elim
    · exact q.elim⟩
end
end PP

set_option Elab.async false
set_option linter.all false
set_option maxRecDepth 100000
set_option maxHeartbeats 1000000
namespace PP
open PySem PySem.Spec PyProof.Rows L2

/-! ### a def's promise by its body -/
def startD (n : Nat) (ds : List D) : En := ds.map some ++ List.replicate (n - ds.length) none
def Md.par : Md → Bool
  | .val => true | .bor => true | .dk => true | .ex => true | _ => false
theorem gt_eq : ∀ (ρ : En) (i : Nat), gt ρ i = (ρ[i]?).join
  | [], i => by simp [gt]
  | x :: r, 0 => by simp [gt]
  | x :: r, i + 1 => by simp [gt, gt_eq r i]
theorem gt_start {n : Nat} {ds : List D} {i : Nat} {d : D} (h : gt (startD n ds) i = some d) : ds[i]? = some d := by
  rw [gt_eq] at h
  unfold startD at h
  by_cases hi : i < ds.length
  · rw [List.getElem?_append_left (by simpa using hi), List.getElem?_map] at h
    cases q : ds[i]? with
    | none => rw [q] at h; cases h
    | some x => rw [q] at h; cases h; rfl
  · rw [List.getElem?_append_right (by simpa using hi), List.getElem?_replicate] at h
    split at h <;> cases h
theorem ArgsOk.at {K : PySem.W.Frag} {g : Rg} {F H : Hp} : ∀ {ms : List Md} {ds : List D} {vs : List V}, ArgsOk K g F H ms ds vs → vs.length = ds.length ∧ ms.length = ds.length ∧ ∀ (i : Nat) d, ds[i]? = some d → ∃ v m, vs[i]? = some v ∧ ms[i]? = some m ∧ ArgOk K g F H m d v
  | [], _, _, ⟨h, h'⟩ => by subst h h'; exact ⟨rfl, rfl, fun i d z => by simp at z⟩
  | m :: ms, _, _, ⟨d, dr, v, vr, e1, e2, h, r⟩ => by
    subst e1 e2
    obtain ⟨l1, l2, f⟩ := ArgsOk.at r
    refine ⟨by simp [l1], by simp [l2], fun i d' z => ?_⟩
    cases i with
    | zero => simp at z; subst z; exact ⟨v, m, rfl, rfl, h⟩
    | succ i => simpa using f i d' (by simpa using z)
theorem solo_of {M : List Md} (h : soloM M = true) : True := trivial
theorem SR.begin {K : PySem.W.Frag} {M ms : List Md} {N : List Str} {g : Rg} {F H : Hp} {ds : List D} {vs : List V} (bs : Bs g F H) (a : ArgsOk K g F H ms ds vs) (hM : M.take ms.length = ms) (hp : ms.all Md.par = true) (hn : ms.length ≤ N.length) (hso : soloM M = true) :
    SR K ⟨g, F, H, F⟩ M g F H (L2.start N vs) (startD N.length ds) := by
  obtain ⟨l1, l2, f⟩ := a.at
  have hmd : ∀ i m, ms[i]? = some m → md M i = m := fun i m h => by
    unfold md
    rw [List.getD_eq_getElem?_getD]
    have : M[i]? = some m := by
      rw [← hM, List.getElem?_take] at h
      split at h
      · exact h
      · cases h
    rw [this]; rfl
  refine ⟨bs, bs.refl, .inl rfl, by unfold L2.start startD; simp [l1], fun i d h => ?_, fun i j v w p hij h1 h2 h3 h4 h5 h6 => ?_, .refl _, solo_of hso⟩
  · have hd := gt_start h
    obtain ⟨v, m, h1, h2, h3⟩ := f i d hd
    refine ⟨v, ?_, ?_⟩
    · unfold L2.start
      rw [List.getElem?_append_left (by rw [List.length_map]; exact (List.getElem?_eq_some_iff.mp h1).1), List.getElem?_map, h1]
      rfl
    · rw [hmd i m h2]
      have hm : m.par = true := List.all_eq_true.mp hp m (List.mem_of_getElem? h2)
      cases m with
      | val => exact h3
      | dk => exact h3
      | ex => exact h3
      | bor => obtain ⟨p, vs, ds, a1, a2, a3, a4, a5⟩ := h3; exact ⟨p, vs, ds, a1, a2, a3, a5, a4⟩
      | own => cases hm
      | od => cases hm
      | oo => cases hm
      | ob _ _ => cases hm
  · cases q : gt (startD N.length ds) i with
    | none => exact absurd q h1
    | some d =>
      have hd := gt_start q
      obtain ⟨v, m, h1, h2, h3⟩ := f i d hd
      rw [hmd i m h2] at h5
      have hm : m.par = true := List.all_eq_true.mp hp m (List.mem_of_getElem? h2)
      cases m <;> first | exact h5 | exact absurd hm (by decide) | cases hm
section
variable {P : Program} {w : World} {K : PySem.W.Frag} {mg : Str → Option Value} {base : Heap}
theorem fnD {x qual : Str} {st : Stmt} {f : Addr} {fd : FuncData} {N ps : List Str} {M ms : List Md} {k : Nat} {kf : KF} {t : DTS} (F : Fun K x qual st f fd) (S : FnScope N ps (defScope st)) (hM : M.take ms.length = ms) (hp : ms.all Md.par = true) (hms : ms.length = ps.length) (hn : ps.length ≤ N.length) (hso : soloM M = true)
    (bd : ∀ (cdv : Value) (A : Around) (outer : List Env) (s : Shared) (H : Hp) (E : XK) (e : Ent), Room k (A.deeper (envOfC qual (defScope st) s.heap.objs.size f cdv)) → (A.deeper (envOfC qual (defScope st) s.heap.objs.size f cdv)).guards = some [] →
      DSs (cxOf CX0 P w K mg base N qual (defScope st) f cdv A outer s H E).nox e M (defBody st) t)
    (sp : ∀ ds (Q : D → Prop), kf ds Q → t { nx := fun _ => Q .none, rt := Q } (startD N.length ds)) : FnG P w K mg base CX0 (k + 1) f fd ps (spD K ms kf) := by
  refine fnG_of F S (fun vs H Q E ⟨g, F, ds, bs, a, _⟩ => ?_) fun cdv A outer s H vs Q E hr hg h => ?_
  · rw [a.len, hms]
  · obtain ⟨g, F0, ds, bs, a, q⟩ := h
    have D := bd cdv A outer s H E ⟨g, F0, H, F0⟩ hr hg
    refine ⟨_, D.ps.nox, g, F0, _, _, SR.begin bs a hM hp (by omega) hso, sp ds _ q, ?_⟩
    exact ⟨fun g' F' H' σ' ρ' s' q' => q' F' H' .non s'.stp rfl, fun F' H' d v t' r q' => q' F' H' v t' r, fun _ _ _ _ _ _ z => z.elim, fun _ _ _ _ _ _ z => z.elim, fun _ _ _ _ _ _ _ _ _ z => z.elim⟩
end
theorem FnG.of {P : Program} {w : World} {K : PySem.W.Frag} {mg : Str → Option Value} {base : Heap} {CX : CXT} {k : Nat} {f : Addr} {fd : FuncData} {ps : List Str} {sp : Sp} (F : FnOk P w K mg base CX k f fd ps sp) : FnG P w K mg base CX k f fd ps sp :=
  ⟨F.len, fun A o s H ar us vs Q E r _ e b v q => F.run A o s H ar us vs Q E r e b v q⟩

/-! ### what all the facts about the top say -/
/-- names: a def of the text -/
structure Has (K : PySem.W.Frag) (mg : Str → Option Value) (x : Str) (st : Stmt) (ps : List Str) (f : Addr) (fd : FuncData) : Prop where
  F : Fun K x x st f fd
  b : Binds K fd ps []
  m : mg x = some (.ref f)
end PP

set_option Elab.async false
set_option linter.all false
set_option maxRecDepth 100000
set_option maxHeartbeats 1000000
namespace PP
open PySem PySem.Spec PyProof.Rows L2

/-! ### what is stored into a slot -/
def PutOk (K : PySem.W.Frag) (m : Md) (F H F' H' : Hp) (d : D) (v : V) : Prop := match m with
  | .val => Rp K F' d v
  | .ex => ExM K F' d v
  | .own => ∃ p vs ds, v = .ref p ∧ d = .list ds ∧ H p = none ∧ F' p = none ∧ H' p = some (.lst vs) ∧ RpL K F' ds vs
  | _ => False
def rdP (K : PySem.W.Frag) (e : Ent) (M : List Md) (m : Md) (t : DT) : TE := fun σ H Q => ∃ g F ρ, SR K e M g F H σ ρ ∧ t ρ fun d => ∀ F' H' v, Stp g F H F' H' → PutOk K m F H F' H' d v → Q v H'
structure SE (X : Cx) (e : Ent) (M : List Md) (m : Md) (x : Expr) (t : DT) : Prop where
  pe : PE X x (rdP X.K e M m t)
  mono : Mono t
section
variable {K : PySem.W.Frag} {e : Ent} {M : List Md} {g : Rg} {F H F' H' : Hp} {σ : L2.St} {ρ : En}
theorem SR.put (s : SR K e M g F H σ ρ) (t : Stp g F H F' H') {i : Nat} {m : Md} {d : D} {v : V} (hm : md M i = m) (ok : PutOk K m F H F' H' d v) : SR K e M g F' H' (σ.set i (some v)) (sv ρ i (some d)) := by
  subst hm
  cases q : md M i with
  | val => rw [q] at ok; exact (s.step t).setv q ok
  | ex => rw [q] at ok; exact (s.step t).setx q ok
  | own =>
    rw [q] at ok
    obtain ⟨p, vs, ds, e1, e2, h1, h2, h3, r⟩ := ok
    subst e1 e2
    exact s.setm t h1 (by rw [q]; exact ⟨p, vs, ds, rfl, rfl, h3, r, h2, s.old h1, s.nmem h1⟩)
  | bor => rw [q] at ok; exact False.elim ok
  | dk => rw [q] at ok; exact False.elim ok
  | od => rw [q] at ok; exact False.elim ok
  | oo => rw [q] at ok; exact False.elim ok
  | ob _ _ => rw [q] at ok; exact False.elim ok
end
section
variable {X : Cx} {e : Ent} {M : List Md} {a b c : Expr} {xs : List Expr} {ta tb tc : DT} {tA : DA} {pos p1 p2 p3 p4 : Pos}
theorem DE.se (h : DE X e M a ta) : SE X e M .val a ta := ⟨h.pe, h.mono⟩
theorem FE.se (h : FE X e M a tA) : SE X e M .own a (tFz tA) :=
  ⟨pe_imp h.pe fun σ H Q ⟨g, F, ρ, sr, q⟩ => ⟨g, F, ρ, sr, h.mono ρ _ _ (fun ds k F' H' p vs s n f hp r => k F' H' (.ref p) s ⟨p, vs, ds, rfl, rfl, n, f, hp, r⟩) q⟩, fun ρ Q Q' f q => h.mono ρ _ _ (fun ds k => f _ k) q⟩
def dSet (i : Nat) (t : DT) : DTS := fun d ρ => t ρ fun x => d.nx (sv ρ i (some x))
theorem ds_st {i : Nat} {m : Md} {y : Str} (hN : X.N.Nodup) (hm : md M i = m) (ha : SE X e M m a ta) (hi : X.N[i]? = some y := by rfl) (hx : Loc X.env.scope y := by first | exact .inl rfl | exact .inr rfl) (hs : swapsWith a (some (.Name y p2)) pos.line X.env = pure false := by rfl)
    (hf : X.fn y = true ∨ X.env.scope.names.lookup y = some .local := by first | exact .inl rfl | exact .inr rfl | assumption) : DS X e M (.Assign [.Name y p2] a pos) (dSet i ta) :=
  ⟨ps_imp (L2.ps_set hN hi hx ha.pe hs hf) fun E σ H ⟨g, F, ρ, d, s, q, h⟩ => ⟨g, F, ρ, s, ha.mono ρ _ _ (fun x hx F' H' v t r => h.nx g F' H' _ _ (s.put t hm r) hx) q⟩, fun d d' ρ i q => ha.mono ρ _ _ (fun _ q => i.nx _ q) q⟩
/-- x, y = a, b -/
def dPar (i j : Nat) (ta tb : DT) : DTS := fun d ρ => ta ρ fun x => tb ρ fun y => d.nx (sv (sv ρ i (some x)) j (some y))
theorem ds_par {i j : Nat} {m n : Md} {x y : Str} {kt k2 : Nat} (hc : X.calm = true) (hN : X.N.Nodup) (hm : md M i = m) (hn : md M j = n) (ha : SE X e M m a ta) (hb : SE X e M n b tb) (hi : X.N[i]? = some x := by rfl) (hj : X.N[j]? = some y := by rfl) (hij : i ≠ j := by decide)
    (hx : X.env.scope.names.lookup x = some .local := by rfl) (hy : X.env.scope.names.lookup y = some .local := by rfl)
    (ea : starEach [a, b] X.env = (false, eval a X.env) :: starEach [b] X.env := by rfl) (eb : starEach [b] X.env = (false, eval b X.env) :: starEach [] X.env := by rfl)
    (hw : swappedStores [.Tuple [.Name x p1, .Name y p2] kt p3] (.Tuple [a, b] k2 p4) X.env = pure (some [x, y]) := by rfl)
    (hs : swapsWithSole [.Tuple [.Name x p1, .Name y p2] kt p3] (.Tuple [a, b] k2 p4) pos.line X.env = pure false := by rfl) :
    DS X e M (.Assign [.Tuple [.Name x p1, .Name y p2] kt p3] (.Tuple [a, b] k2 p4) pos) (dPar i j ta tb) :=
  ⟨ps_imp (L2.ps_par hc hN hi hj hij hx hy (pa_cons ha.pe (pa_cons hb.pe pa_nil eb) ea) hw hs) fun E σ H ⟨g, F, ρ, d, s, q, h⟩ => ⟨g, F, ρ, s, ha.mono ρ _ _ (fun x hx F1 H1 v t1 r1 => ⟨g, F1, ρ, s.step t1, hb.mono ρ _ _ (fun y hy F2 H2 w t2 r2 =>
    ⟨v, w, rfl, h.nx g F2 H2 _ _ ((s.put t1 hm r1).put t2 hn r2) hy⟩) hx⟩) q⟩, fun d d' ρ k q => ha.mono ρ _ _ (fun x q => hb.mono ρ _ _ (fun y q => k.nx _ q) q) q⟩

/-! ### short words -/
theorem dv (i : Nat) {y : Str} (hN : X.N[i]? = some y := by rfl) (hv : Vis X.env.scope y := by first | exact Or.inl rfl | exact Or.inr (Or.inl rfl) | exact Or.inr (Or.inr rfl)) (hm : md M i = .val := by rfl) (hd : (y == ("__debug__" : Str)) = false := by decide) (hcd : (y == ("__classdict__" : Str)) = false := by decide) :
    DE X e M (.Name y pos) (tV i) := de_var hN hv hm hd hcd
theorem rv (i : Nat) {y : Str} (hN : X.N[i]? = some y := by rfl) (hv : Vis X.env.scope y := by first | exact Or.inl rfl | exact Or.inr (Or.inl rfl) | exact Or.inr (Or.inr rfl)) (hm : md M i ≠ .dk := by decide) (hm2 : (md M i).opq = false := by decide) (hd : (y == ("__debug__" : Str)) = false := by decide) (hcd : (y == ("__classdict__" : Str)) = false := by decide) :
    RE X e M (.Name y pos) (tV i) := re_var hN hv hm hm2 hd hcd
theorem gn (i : Nat) {y : Str} {L : List Nat} (hN : X.N.Nodup) (hi : X.N[i]? = some y := by rfl) (hx : Loc X.env.scope y := by first | exact .inl rfl | exact .inr rfl) (hm : md M i = .val := by rfl) (hL : i ∈ L := by decide)
    (hf : X.fn y = true ∨ X.env.scope.names.lookup y = some .local := by first | exact .inl rfl | exact .inr rfl | assumption) : GT X e M L (.Name y pos) (gN i) := gt_name hN hi hx hm hL hf
/-- a def as callers see it -/
structure Cl (P : Program) (w : World) (K : PySem.W.Frag) (mg : Str → Option Value) (base : Heap) (k : Nat) (x : Str) (ps : List Str) (ms : List Md) (kf : KF) : Prop where
  ex : ∃ f fd, mg x = some (.ref f) ∧ PySem.W.keepIn K (.ref f) = true ∧ Binds K fd ps [] ∧ FnG P w K mg base CX0 k f fd ps (spD K ms kf)
  mo : MonoC kf
theorem cl {k : Nat} {y : Str} {ps : List Str} {kf : KF} {ms : List Md} {tr : DA} (C : Cl X.prog X.w X.K X.mg X.base k y ps ms kf) (hr : Room k X.A) (hgd : X.A.guards = some []) (ha : GA X e M ms (a :: xs) tr)
    (hg : Gl X y := by rfl) (hdb : (y == ("__debug__" : Str)) = false := by decide) (he : starEach (a :: xs) X.env = (false, eval a X.env) :: starEach xs X.env := by rfl)
    (hpl : (backTo pos (starEach xs X.env)).any (·.1) = false := by rfl) : DE X e M (.Call (.Name y p1) (a :: xs) [] pos) (tCl kf tr) := by
  obtain ⟨f, fd, h1, h2, h3, h4⟩ := C.ex
  exact de_call h4 hr hgd hg h1 h2 h3 C.mo ha hdb he hpl
theorem gdk (i : Nat) {y : Str} {ms : List Md} {tr : DA} (hr : GA X e M ms xs tr) (hN : X.N[i]? = some y := by rfl) (hv : Vis X.env.scope y := by first | exact Or.inl rfl | exact Or.inr (Or.inl rfl) | exact Or.inr (Or.inr rfl)) (hm : md M i = .dk := by rfl) (hd : (y == ("__debug__" : Str)) = false := by decide) (hcd : (y == ("__classdict__" : Str)) = false := by decide)
    (hs : starEach (.Name y pos :: xs) X.env = (false, eval (.Name y pos) X.env) :: starEach xs X.env := by rfl) : GA X e M (.dk :: ms) (.Name y pos :: xs) (tConsA (tDk i) tr) := ga_dk hN hv hr hm hd hcd hs
end
/-- a def that stands behind the top -/
structure Hd (K : PySem.W.Frag) (mg : Str → Option Value) (x : Str) (st : Stmt) (ps : List Str) : Prop where
  ex : ∃ f fd, Fun K x x st f fd ∧ Binds K fd ps [] ∧ mg x = some (.ref f)
section
variable {P : Program} {w : World} {K : PySem.W.Frag} {mg : Str → Option Value} {base : Heap}
theorem clD {x : Str} {st : Stmt} {N ps : List Str} {M ms : List Md} {k : Nat} {kf : KF} (h : Hd K mg x st ps) (S : FnScope N ps (defScope st)) (mo : MonoC kf)
    (hM : M.take ms.length = ms) (hp : ms.all Md.par = true) (hms : ms.length = ps.length) (hn : ps.length ≤ N.length)
    (bd : ∃ t : DTS, (∀ (f : Addr) (cdv : Value) (A : Around) (outer : List Env) (s : Shared) (H : Hp) (E : XK) (e : Ent), Room k (A.deeper (envOfC x (defScope st) s.heap.objs.size f cdv)) → (A.deeper (envOfC x (defScope st) s.heap.objs.size f cdv)).guards = some [] →
      DSs (cxOf CX0 P w K mg base N x (defScope st) f cdv A outer s H E).nox e M (defBody st) t) ∧
      (∀ ds (Q : D → Prop), kf ds Q → t { nx := fun _ => Q .none, rt := Q } (startD N.length ds))) (hso : soloM M = true := by rfl) : Cl P w K mg base (k + 1) x ps ms kf := by
  obtain ⟨f, fd, F, b, m⟩ := h.ex
  obtain ⟨t, d, sp⟩ := bd
  exact ⟨⟨f, fd, m, F.kp, b, fnD F S hM hp hms hn hso (fun cdv A outer s H E e hr hg => d f cdv A outer s H E e hr hg) sp⟩, mo⟩
end
end PP

set_option Elab.async false
set_option linter.all false
set_option maxRecDepth 100000
set_option maxHeartbeats 1000000
namespace PySem
open Sem (wp)
open AutoSeq1 (wpAny_loadPart')
/-- enumerate of a tuple, made -/
theorem pp_enumT (l : Addr) (items : Array Value) (n : Nat) (dct : Option Addr) (sl : Array (Option Value)) :
    Meets (Builtin.«enumerate.__new__» ⟨[.type "enumerate", .ref l], []⟩)
      (fun _ R s => s.heap.get? l = some { cls := .type "tuple", dict := dct, data := .seq items n, slots := sl } ∧
        R (.ok (.ret (.ref (s.heap.push { cls := .type "tuple_iterator", data := .fields #[.ref l, .int 0 0] }).objs.size)))
          { s with heap := (s.heap.push { cls := .type "tuple_iterator", data := .fields #[.ref l, .int 0 0] }).push { cls := .type "enumerate", data := .fields #[.none, .bool false, .ref s.heap.objs.size, rawInt 0, .none, .none] } }) := by
  refine .of_wp fun prog w A R s h => ?_
  obtain ⟨hp, g, d, tk, os⟩ := s
  obtain ⟨hl, h⟩ := h
  have hsub := sub_enumerate
  have hT : Heap.IsTuple (Shared.heap ⟨hp, g, d, tk, os⟩) l items := ⟨_, hl, rfl, n, rfl⟩
  wp_walk using wpAny_loadPart' hl
  refine wpAny_stack_any fun st => wpAny_pure ?_
  split
  · rename_i c _ _ _ _ _
    cases (c == Value.type "enumerate") <;>
    · wp_walk using wpAny_loadPart' hl, wpAny_pyIter_tuple hT
      exact ⟨_, rfl, h⟩
  · wp_walk using wpAny_loadPart' hl, wpAny_pyIter_tuple hT
    exact ⟨_, rfl, h⟩
theorem pp_call_enumT {prog : Program} {w : World} {A : Around} {E : Value → Shared → Prop} {s : Shared} {l : Addr} {items : Array Value} {Q : Value → Shared → Prop} (hT : s.heap.IsTuple l items)
    (h : ∀ h', IsEnum h' (s.heap.objs.size + 1) s.heap.objs.size 0 .none → h'.IsTupleIter s.heap.objs.size l 0 →
      (∀ b o, s.heap.get? b = some o → h'.get? b = some o) → Q (.ref (s.heap.objs.size + 1)) { s with heap := h' }) :
    wpAny (model prog w) A (call (.type "enumerate") [.ref l]) Q E s := by
  obtain ⟨⟨c, dct, dt, sl⟩, hl, hc, n, hd⟩ := hT
  obtain rfl : c = .type "tuple" := hc
  obtain rfl : dt = .seq items n := hd
  refine callType_new F.called_enumerate (by decide) (F.typeCall_enumerate_1 _) (F.newCall_enumerate_1 _)
    (fun obj => F.args_object_init_2 obj _) F.entry_enumerate_new (pp_enumT l items n dct sl) ⟨hl, ?_⟩
  have z : (s.heap.push { cls := .type "tuple_iterator", data := .fields #[.ref l, .int 0 0] }).objs.size = s.heap.objs.size + 1 :=
    Heap.size_push ..
  show _ ∧ _
  rw [z]
  have he := Heap.get?_push_size (s.heap.push { cls := .type "tuple_iterator", data := .fields #[.ref l, .int 0 0] })
    (o := { cls := .type "enumerate", data := .fields #[.none, .bool false, .ref s.heap.objs.size, rawInt 0, .none, .none] }) rfl
  rw [z] at he
  exact ⟨⟨_, he, rfl⟩, h _ he ⟨{ cls := .type "tuple_iterator", data := .fields #[.ref l, .int 0 0] }, Heap.get?_push_of_some _ (Heap.get?_push_size _ rfl), rfl, rfl⟩
    fun b o x => Heap.get?_push_of_some _ (Heap.get?_push_of_some _ x)⟩
end PySem
namespace PP
open PySem PySem.Spec PyProof.Rows L2
/-- enumerate(tuple) -/
def ItT (K : PySem.W.Frag) (a : Addr) : It :=
  ⟨fun i H => ∃ xs x, SqT K H a xs ∧ xs[i]? = some x,
    fun i H v H' => ∃ T x o, v = .ref T ∧ H T = none ∧ H' = upd H T (.frz o (.tup [.int (i : Nat), x])) ∧ (o.cls = Value.type "tuple" ∧ o.dict = none) ∧ ∀ xs, SqT K H a xs → xs[i]? = some x,
    fun i H => ∃ xs, SqT K H a xs ∧ xs.length ≤ i⟩
theorem turn_enT {P : Program} {w : World} {K : PySem.W.Frag} {elts : List Expr} {kk : Nat} {tpos : Pos} (a e it : Addr) :
    Turn P w K (.Tuple elts kk tpos) (ItT K a) [e, it] e (fun i h => (∃ old, IsEnum h e it ((i : Nat) : Int) old) ∧ h.IsTupleIter it a i ∧ e ≠ it) where
  mem := List.mem_cons_self
  obj := by
    rintro i h ⟨⟨old, he⟩, ⟨o, ho, hc, hd⟩, _⟩ b hb
    rcases List.mem_cons.mp hb with z | z
    · subst z; exact ⟨_, he, fun v q => nomatch q⟩
    · rw [List.mem_singleton.mp z]; exact ⟨o, ho, fun v q => by rw [hd] at q; cases q⟩
  keep := by
    rintro i h h' ⟨⟨old, he⟩, hi, hne⟩ k
    exact ⟨⟨old, k e (by simp) _ he⟩, hi.at fun o q => k it (by simp) o q, hne⟩
  item := by
    rintro X rfl rfl rfl hc i pins s σ H E I hf ⟨⟨old, he⟩, hit, hne⟩ ⟨xs, x, hq, hx⟩
    obtain ⟨its, rv, tp, hz⟩ := I.tuple hq
    obtain ⟨u, hu, ru⟩ := rv.get hx
    have tp' : s.heap.IsTuple a its.toArray := tp
    have le : e < s.heap.objs.size := Heap.lt_size he
    have li : it < s.heap.objs.size := by obtain ⟨_, q, _⟩ := hit; exact Heap.lt_size q
    have cl : ∀ {b o}, s.heap.get? b = some o → o.cls ≠ .type "tuple" → b ≠ a := fun {b o} q nq z => by
      subst z
      obtain ⟨o', q', c', _⟩ := tp'
      rw [q] at q'; cases q'; exact nq c'
    have ea : e ≠ a := cl he (by show Value.type "enumerate" ≠ Value.type "tuple"; decide)
    have ia : it ≠ a := by
      obtain ⟨o, q, c, _⟩ := id hit
      exact cl q (by rw [c]; show Value.type "tuple_iterator" ≠ Value.type "tuple"; decide)
    have hlt : i < its.toArray.size := by
      have := (List.getElem?_eq_some_iff.mp hu).1
      simpa using this
    refine wpAny_pyNext_enum_itemD (Draws.tuple (A := X.A.in1) (show X.A.in1.handled = none from I.ok.hd hc) it a (Ne.symm ia) its.toArray) he (And.intro hit tp') hlt hne (by simp [hne, ea]) ?_
    intro y h' tk hy ho st hT hsz hk
    obtain rfl : u = y := by
      have : its.toArray[i]? = some u := by simpa using hu
      rw [this] at hy; cases hy; rfl
    refine ⟨_, rfl, wpAny_letOwnedTupleGo_enum (s := { s with heap := h', toks := tk + 1 }) ho ?_⟩
    intro h2 he' sb
    have hT2 : h2.get? s.heap.objs.size = some { cls := .type "tuple", data := .seq #[.int i tk, u] } := (sb.2 _ (Nat.ne_of_gt le)).trans hT
    have nw : ObjOk X.prog X.w (upd H s.heap.objs.size (.frz { cls := .type "tuple", data := .seq #[.int i tk, u] } (.tup [.int (i : Nat), x]))) h2 s.heap.objs.size (.frz { cls := .type "tuple", data := .seq #[.int i tk, u] } (.tup [.int (i : Nat), x])) :=
      ⟨hT2, by show 2 ≤ sizeLine; decide, [.int i tk, u], .cons ⟨_, rfl⟩ (.cons ru .nil), ⟨_, hT2, rfl, _, rfl⟩⟩
    have I1 : Inv X pins σ _ { s with heap := h2, toks := tk + 1 } := I.turnedNew (ch := [e, it]) (fun b ob hb q => by
      have n1 : b ≠ e := fun z => hb (by simp [z])
      have n2 : b ≠ it := fun z => hb (by simp [z])
      exact (sb.2 b n1).trans (hk b ob n1 n2 q)) hf (Nat.le_refl _) nw
    refine ⟨.ref s.heap.objs.size, _, I1, rfl, ⟨_, x, _, rfl, I.hok.fresh (Nat.le_refl _), rfl, ⟨rfl, rfl⟩, ?_⟩, ⟨⟨u, ?_⟩, ?_, hne⟩, ?_⟩
    · intro ys hy'
      rw [I.tuple_inj hy' hq]; exact hx
    · have e1 : ((i + 1 : Nat) : Int) = (i : Int) + 1 := by omega
      rw [e1]; exact he'
    · exact st.1.at fun o q => (sb.2 it (Ne.symm hne)).trans q
    · intro b hb
      have lb : b < s.heap.objs.size := by
        rcases List.mem_cons.mp hb with z | z
        · rw [z]; exact le
        · rw [List.mem_singleton.mp z]; exact li
      rw [upd_ne (Nat.ne_of_lt lb)]
      exact (hf b hb).1
  done := by
    rintro X rfl rfl rfl hc i pins s σ H E I hf ⟨⟨old, he⟩, hit, hne⟩ ⟨xs, hq, hx⟩
    obtain ⟨its, rv, tp, hz⟩ := I.tuple hq
    have tp' : s.heap.IsTuple a its.toArray := tp
    obtain ⟨f0, f1, f2, f3, f4, f5⟩ := hf it (by simp)
    have hl := rv.length
    have ia : it ≠ a := by
      obtain ⟨o, q, c, _⟩ := id hit
      intro z
      subst z
      obtain ⟨o', q', c', _⟩ := tp'
      rw [q] at q'; cases q'
      rw [c] at c'
      exact absurd (Value.type.inj c') (by decide)
    have hT : s.TypeIs (.ref e) "enumerate" := ⟨_, he, rfl⟩
    unfold pyNext
    refine wpAny_bind (wpAny_attempt (wpAny_callSpecial?_slot (name := Str.ofString "__next__") hT F.slot_enumerate_next
      (wpAny_call_entry F.slot_enumerate_next hT F.entry_enumerate_next ?_ (F.args_enumerate_next_1 _))))
    show wpAny _ _ (field (.ref e) 2 >>= _) _ _ _
    refine wpAny_bind (wpAny_field he rfl (x := .ref it) rfl (wpAny_bind (wpAny_nextOf_tuple_end (I.ok.hd hc) hit tp' (by simp; omega) ?_)))
    rintro h' x' eb ⟨o, ho, hcx⟩
    refine wpAny_bind (wpAny_isInstance (T := "StopIteration") (b := true) ⟨o, ho, hcx⟩ isSubtype_stop (wpAny_pure ⟨rfl, ?_⟩))
    exact I.turned (t' := s.toks) (fun b o hb q => eb b o hb q) f0 f1 f3 f4 f5
  self := by
    rintro A i s Q E ⟨⟨_, he⟩, _⟩ h
    exact wpAny_pyIter_enum he h
section
variable {X : Cx} {e : Ent} {M : List Md} {a : Expr} {ta : DT} {p pos tpos : Pos} {elts : List Expr} {kk : Nat}
def iEnA (K : PySem.W.Frag) (ta : TA) : TI := fun σ H R => ta σ H fun vs H1 =>
  ∃ b xs, vs = [.ref b] ∧ ((SqL K H1 b xs ∧ R (Ite K b) H1) ∨ (SqT K H1 b xs ∧ R (ItT K b) H1))
theorem pi_enA {tA : TA} (hg : Gl X "enumerate") (hm : X.mg "enumerate" = none) (ha : PA X [a] tA) (hs : starEach [a] X.env = [(false, eval a X.env)] := by rfl) :
    PI X (.Tuple elts kk tpos) (.Call (.Name "enumerate" p) [a] [] pos) (iEnA X.K tA) := by
  constructor
  intro pins s σ H R I h
  refine Call_ (ld_blt I hg hm boot_enumerate (PyProof.Rows.callWith_type1 (thn (ha.run pos pins s σ H _ I h) ?_) hs rfl))
  rintro us s1 ⟨vs, H1, I1, r1, b, xs, rfl, q⟩
  obtain rfl := r1.ref1
  have le : ∀ b, b ∈ [s1.heap.objs.size + 1, s1.heap.objs.size] → s1.heap.objs.size ≤ b := fun b hb => by
    rcases List.mem_cons.mp hb with z | z
    · rw [z]; exact Nat.le_add_right _ _
    · rw [List.mem_singleton.mp z]; exact Nat.le_refl _
  rcases q with ⟨hq, q⟩ | ⟨hq, q⟩
  · obtain ⟨its, rv, p', hz⟩ := I1.list hq
    refine call_enumerate_list p'.isList fun h' he hit hsz hk => wpAny_pyIter_enum he ?_
    exact ⟨_, _, _, _, H1, rfl, I1.kept (t' := s1.toks) hk, turn_enum b (s1.heap.objs.size + 1) s1.heap.objs.size, ⟨⟨.none, he⟩, hit, Nat.succ_ne_self _⟩,
      fun b hb => I1.fpOk (le b hb) (I1.hok.fresh (le b hb)), q⟩
  · obtain ⟨its, rv, p', hz⟩ := I1.tuple hq
    refine pp_call_enumT (show s1.heap.IsTuple b its.toArray from p') fun h' he hit hk => wpAny_pyIter_enum he ?_
    exact ⟨_, _, _, _, H1, rfl, I1.kept (t' := s1.toks) hk, turn_enT b (s1.heap.objs.size + 1) s1.heap.objs.size, ⟨⟨.none, he⟩, hit, Nat.succ_ne_self _⟩,
      fun b hb => I1.fpOk (le b hb) (I1.hok.fresh (le b hb)), q⟩
/-- the pairs -/
def enD (ds : List D) : List D := (List.range ds.length).map fun i => PyData.tuple [.int (i : Nat), ds.getD i .none]
theorem enD_get {ds : List D} {i : Nat} {d : D} (h : (enD ds)[i]? = some d) : ∃ x, ds[i]? = some x ∧ d = .tuple [.int (i : Nat), x] := by
  unfold enD at h
  by_cases hi : i < ds.length
  · rw [List.getElem?_map, List.getElem?_range hi] at h
    cases h
    exact ⟨ds[i], by simp [hi], by simp [hi]⟩
  · rw [List.getElem?_eq_none (by simpa using hi)] at h; cases h
theorem enD_len (ds : List D) : (enD ds).length = ds.length := by simp [enD]
theorem wk_enT {K : PySem.W.Frag} {F : Hp} {a : Addr} {xs : List V} {ds : List D} (h : FrT F a xs) (r : RpL K F ds xs) : Wk K (ItT K a) (enD ds) F := fun g F' H' bs l i => by
  have hq : SqT K H' a xs := bs.sub.sqT (l.frT h)
  have hl := r.length
  rw [enD_len]
  refine ⟨fun hi => ?_, fun hi => ⟨xs, hq, by omega⟩⟩
  have hx : i < xs.length := by omega
  refine ⟨⟨xs, xs[i], hq, by simp [hx]⟩, fun v H2 ⟨T, x, o, e1, nT, e2, oc, y⟩ => ?_⟩
  subst e1 e2
  refine ⟨upd F' T (.frz o (.tup [.int (i : Nat), x])), bs.alloc nT _, fun d hd => ?_⟩
  obtain ⟨z, h1, rfl⟩ := enD_get hd
  obtain ⟨v, h2, h3⟩ := (r.mono l).get h1
  have := y xs hq
  rw [h2] at this; cases this
  exact ⟨T, _, rfl, FrT.new oc.1 oc.2, _, _, rfl, rfl, _, _, rfl, h3.mono (.new (bs.sub.none nT)), rfl⟩
def tEnI (t : DT) : DA := fun ρ Q => t ρ fun d => match d with | .tuple ds => Q (enD ds) | _ => False
theorem di_enum (hg : Gl X "enumerate") (hm : X.mg "enumerate" = none) (ha : DE X e M a ta) (hs : starEach [a] X.env = [(false, eval a X.env)] := by rfl) : DI X e M (.Tuple elts kk tpos) (.Call (.Name "enumerate" p) [a] [] pos) (tEnI ta) :=
  ⟨pi_imp (pi_enA hg hm (pa_cons ha.pe pa_nil hs) hs) fun σ H R ⟨g, F, ρ, s, q⟩ => ⟨g, F, ρ, s, ha.mono ρ _ _ (fun d hd F' H' v t r => by
    split at hd
    · obtain ⟨p, vs, rfl, hp, rl⟩ := r
      exact ⟨p, vs, rfl, .inr ⟨t.sub.sqT hp, hd F' H' _ t (wk_enT hp rl)⟩⟩
    · exact hd.elim) q⟩, fun ρ Q Q' f q => ha.mono ρ _ _ (fun d q => by
    split at q
    · exact f _ q
    · exact q.elim) q⟩
end
end PP

set_option Elab.async false
set_option linter.all false
set_option maxRecDepth 100000
set_option maxHeartbeats 1000000
namespace PySem
open Sem (wp)
open AutoSeq1
theorem pp_extT (l : Addr) (xs : Array Value) (n : Nat) (b : Addr) (ys : Array Value) (n2 : Nat) (dd : Option Addr) (sl : Array (Option Value))
    (h0 : ¬(!xs.isEmpty && Builtin.List.listTooLong (xs.size + ys.size)) = true) (h1 : xs.size ≤ sizeLine) (h2 : xs.size + ys.size ≤ sizeLine + 1) :
    Meets (Builtin.«list.extend» ⟨[.ref l, .ref b], []⟩) (fun _ R s =>
      s.heap.get? l = some { cls := .type "list", dict := none, data := .seq xs n, slots := #[] } ∧
      s.heap.get? b = some { cls := .type "tuple", dict := dd, data := .seq ys n2, slots := sl } ∧
      R (.ok (.ret Value.none)) { s with heap := s.heap.update l (Obj.mapSeq fun x => x ++ ys), toks := s.toks }) := by
  refine .of_wp fun prog w A R s h => ?_
  obtain ⟨hp, g, d, tk, os⟩ := s
  obtain ⟨hl, hb, h⟩ := h
  have f1 := idx_int
  have f2 := sub_tuple_tuple
  have f3 := sub_list_list
  have f4 := sub_tuple_list
  have f5 := sub_list_tuple
  have hz' : (xs ++ ys).size ≤ sizeLine + 1 := by rw [Array.size_append]; exact h2
  wp_walk using (wpAny_updateSeq hl rfl (hz := h1) (_hz' := hz')), wpAny_loadPart' hl, wpAny_loadPart' hb
  exact ⟨_, rfl, h⟩
end PySem
namespace PP
open PySem PySem.Spec PyProof.Rows L2
def rExtT (K : PySem.W.Frag) : V → List V → Hp → VK → Prop := fun x vs H Q => ∃ l b xs zs, x = .ref l ∧ vs = [.ref b] ∧ H l = some (.lst xs) ∧ SqT K H b zs ∧ xs.length + zs.length ≤ sizeLine ∧ Q .non (upd H l (.lst (xs ++ zs)))
theorem mt_extT {X : Cx} : MtM X "list.extend" (rExtT X.K) := by
  intro pins s σ H x vs v us Q I rx rv h
  obtain ⟨l, b, xs, zs, rfl, rfl, hH, hB, hz, q⟩ := h
  cases rx
  obtain ⟨u, rfl, ru⟩ := rv.one
  cases ru
  obtain ⟨z, its, n, r, hl, e⟩ := I.lstM hH
  obtain ⟨its2, r2, ⟨⟨c, dd, dt, sl⟩, e2, hc, n2, hd⟩, _⟩ := I.tuple hB
  obtain rfl : c = .type "tuple" := hc
  obtain rfl : dt = .seq its2.toArray n2 := hd
  have l2 := r2.length
  have sz : its.toArray.size + its2.toArray.size ≤ sizeLine := by rw [List.size_toArray, List.size_toArray]; omega
  have long : ¬ (!its.toArray.isEmpty && Builtin.List.listTooLong (its.toArray.size + its2.toArray.size)) = true := by
    rw [notLongL sz, Bool.and_false]; exact Bool.false_ne_true
  refine call_meets F.slot_list_extend ⟨_, e, rfl⟩ F.entry_list_extend (F.args_list_extend_2 _ _)
    (pp_extT l its.toArray n b its2.toArray n2 dd sl long (by rw [List.size_toArray]; omega) (by omega)) ⟨e, e2, ?_⟩
  exact ⟨.non, _, I.lset (its' := its ++ its2) hH e (by simp) (r.append r2) (by rw [List.length_append]; omega), rfl, q⟩
section
variable {X : Cx} {e : Ent} {M : List Md} {a b : Expr} {ta tb : DT} {pos p1 p2 p3 : Pos}
/-- x.extend(list or tuple) -/
def dExt (i : Nat) (te : DT) : DTS := fun d ρ => match gt ρ i with
  | some (.list xs) => te ρ fun y => (match y with
    | .list ys => xs.length + ys.length ≤ sizeLine ∧ d.nx (sv ρ i (some (.list (xs ++ ys))))
    | .tuple ys => xs.length + ys.length ≤ sizeLine ∧ d.nx (sv ρ i (some (.list (xs ++ ys))))
    | _ => False)
  | _ => False
theorem dExt_mono {i : Nat} (m : Mono ta) : MonoS (dExt i ta) := fun d d' ρ j q => by
  unfold dExt at q ⊢
  split at q
  · refine m ρ _ _ (fun y q => ?_) q
    split at q
    · exact ⟨q.1, j.nx _ q.2⟩
    · exact ⟨q.1, j.nx _ q.2⟩
    · exact q.elim
  · exact q.elim
theorem mtm_or {id : String} {r r' : V → List V → Hp → VK → Prop} (h : MtM X id r) (h' : MtM X id r') : MtM X id (fun x xs H Q => r x xs H Q ∨ r' x xs H Q) := by
  intro pins s σ H x vs v us Q I rx rv q
  rcases q with q | q
  · exact h pins s σ H x vs v us Q I rx rv q
  · exact h' pins s σ H x vs v us Q I rx rv q
theorem ds_ext (i : Nat) {y : Str} {spos : Pos} (ha : DE X e M a ta) (hm : md M i = .own := by rfl) (hN : X.N[i]? = some y := by rfl) (hv : Vis X.env.scope y := by first | exact Or.inl rfl | exact Or.inr (Or.inl rfl) | exact Or.inr (Or.inr rfl)) (hd : (y == ("__debug__" : Str)) = false := by decide) (hcd : (y == ("__classdict__" : Str)) = false := by decide)
    (h1 : starEach [a] X.env = (false, eval a X.env) :: starEach [] X.env := by rfl)
    (hE : ∀ {to : TE} {t : TA}, PE X (.Name y p1) to → PA X [a] t → PE X (.Call (.Attribute (.Name y p1) "extend" p2) [a] [] pos) (tBM X.K "list" (fun x xs H Q => rExtend x xs H Q ∨ rExtT X.K x xs H Q) to t) := by
      intro to t h h'; exact pe_bm PySem.F.plainAttrs_list PySem.F.slot_list_extend PySem.F.type_list_extend (mtm_or mt_extend mt_extT) h h')
    (hs : swapsWith (.Call (.Attribute (.Name y p1) "extend" p2) [a] [] pos) none spos.line X.env = pure false := by rfl) : DS X e M (.Expr (.Call (.Attribute (.Name y p1) "extend" p2) [a] [] pos) spos) (dExt i ta) :=
  ⟨ps_imp (ps_expr (hE (pe_var hN hv hd hcd) (pa_cons ha.pe pa_nil h1)) hs) fun E σ H ⟨g, F, ρ, d, s, q, h⟩ => by
    unfold dExt at q
    split at q
    · rename_i xs hx
      obtain ⟨p, vs, ds, e2, h1, h3, h4, h5, h6, h7⟩ := s.ownAt hx hm
      cases e2
      refine ⟨_, h1, .inl ⟨rfl, vs, .inl (.inl h3)⟩, g, F, ρ, s, ha.mono ρ _ _ (fun y hy F' H' v t r => ?_) q⟩
      split at hy
      · obtain ⟨b, zs, rfl, hb, rb⟩ := r
        exact .inl ⟨p, b, vs, zs, rfl, rfl, t.keep _ _ h3 h7, t.sub _ _ hb, by rw [h4.length, rb.length]; exact hy.1, h.nx g F' _ σ _ ((s.step t).putL hm hx h1 (t.no h3 h5) h6 h7 ((h4.mono t.mono).append rb)) hy.2⟩
      · obtain ⟨b, zs, rfl, hb, rb⟩ := r
        exact .inr ⟨p, b, vs, zs, rfl, rfl, t.keep _ _ h3 h7, t.sub.sqT hb, by rw [h4.length, rb.length]; exact hy.1, h.nx g F' _ σ _ ((s.step t).putL hm hx h1 (t.no h3 h5) h6 h7 ((h4.mono t.mono).append rb)) hy.2⟩
      · exact hy.elim
    · exact q.elim, dExt_mono ha.mono⟩
/-- z.append(x.pop(e)) -/
def dAppPop (i j : Nat) (tk : DT) : DTS := fun d ρ => match gt ρ i, gt ρ j with
  | some (.list xs), some (.list zs) => tk ρ fun k => (match k with
    | .int n => (0 ≤ n ∧ n < xs.length ∧ xs.length ≤ 1000 ∧ zs.length < 1000) ∧ (match xs[n.toNat]? with | some y => d.nx (sv (sv ρ i (some (.list (xs.eraseIdx n.toNat)))) j (some (.list (zs ++ [y])))) | none => False)
    | _ => False)
  | _, _ => False
theorem gt_sv_ne {ρ : En} {i j : Nat} {d : Option D} (h : j ≠ i) : gt (sv ρ i d) j = gt ρ j := by rw [gt_sv, if_neg h]
theorem ds_appPop (i j : Nat) {x z : Str} {p4 p5 spos : Pos} (hij : j ≠ i := by decide) (hb : RE X e M b tb) (hm : md M i = .own := by rfl) (hm2 : md M j = .own := by rfl) (hN : X.N[i]? = some x := by rfl) (hN2 : X.N[j]? = some z := by rfl)
    (hv : Vis X.env.scope x := by first | exact Or.inl rfl | exact Or.inr (Or.inl rfl) | exact Or.inr (Or.inr rfl)) (hv2 : Vis X.env.scope z := by first | exact Or.inl rfl | exact Or.inr (Or.inl rfl) | exact Or.inr (Or.inr rfl))
    (hd : (x == ("__debug__" : Str)) = false := by decide) (hcd : (x == ("__classdict__" : Str)) = false := by decide) (hd2 : (z == ("__debug__" : Str)) = false := by decide) (hcd2 : (z == ("__classdict__" : Str)) = false := by decide)
    (h1 : starEach [b] X.env = (false, eval b X.env) :: starEach [] X.env := by rfl)
    (hP : ∀ {to : TE} {t : TA}, PE X (.Name x p1) to → PA X [b] t → PE X (.Call (.Attribute (.Name x p1) "pop" p2) [b] [] p3) (tBM X.K "list" rPopAt to t) := by
      intro to t h h'; exact pe_bm PySem.F.plainAttrs_list PySem.F.slot_list_pop PySem.F.type_list_pop mt_popAt h h')
    (h2 : starEach [.Call (.Attribute (.Name x p1) "pop" p2) [b] [] p3] X.env = (false, eval (.Call (.Attribute (.Name x p1) "pop" p2) [b] [] p3) X.env) :: starEach [] X.env := by rfl)
    (hE : ∀ {to : TE} {t : TA}, PE X (.Name z p4) to → PA X [.Call (.Attribute (.Name x p1) "pop" p2) [b] [] p3] t → PE X (.Call (.Attribute (.Name z p4) "append" p5) [.Call (.Attribute (.Name x p1) "pop" p2) [b] [] p3] [] pos) (tBM X.K "list" rAppend to t) := by
      intro to t h h'; exact pe_bm PySem.F.plainAttrs_list PySem.F.slot_list_append PySem.F.type_list_append mt_append h h')
    (hs : swapsWith (.Call (.Attribute (.Name z p4) "append" p5) [.Call (.Attribute (.Name x p1) "pop" p2) [b] [] p3] [] pos) none spos.line X.env = pure false := by rfl) :
    DS X e M (.Expr (.Call (.Attribute (.Name z p4) "append" p5) [.Call (.Attribute (.Name x p1) "pop" p2) [b] [] p3] [] pos) spos) (dAppPop i j tb) :=
  ⟨ps_imp (ps_expr (hE (pe_var hN2 hv2 hd2 hcd2) (pa_cons (hP (pe_var hN hv hd hcd) (pa_cons hb.pe pa_nil h1)) pa_nil h2)) hs) fun E σ H ⟨g, F, ρ, d, s, q, h⟩ => by
    unfold dAppPop at q
    split at q
    · rename_i xs zs hx hz
      obtain ⟨p, vs, ds, e2, a1, a3, a4, a5, a6, a7⟩ := s.ownAt hx hm
      cases e2
      obtain ⟨p', vs', ds', e2, b1, b3, b4, b5, b6, b7⟩ := s.ownAt hz hm2
      cases e2
      have pp : p' ≠ p := fun z => by
        subst z
        exact s.apart i j p' (Ne.symm hij) (by rw [hm]; rfl) (by rw [hm2]; rfl) (by rw [hx]; simp) (by rw [hz]; simp) a1 b1
      refine ⟨_, b1, .inl ⟨rfl, vs', .inl (.inl b3)⟩, _, a1, .inl ⟨rfl, vs, .inl (.inl a3)⟩, g, F, ρ, s, hb.mono ρ _ _ (fun k hk F' H' v t r => ?_) q⟩
      split at hk
      · rename_i n
        obtain ⟨⟨n0, n1, n2, n3⟩, hk⟩ := hk
        split at hk
        · rename_i y hy
          obtain ⟨w, hw, rw'⟩ := a4.get hy
          have L1 := a4.length
          have L2 := b4.length
          have s2 := (s.step t).putL hm hx a1 (t.no a3 a5) a6 a7 ((a4.mono t.mono).eraseIdx n.toNat)
          have nz : n = (n.toNat : Int) := (Int.toNat_of_nonneg n0).symm
          refine ⟨p, vs, n, n.toNat, w, rfl, by rw [r.int], t.keep _ _ a3 a7, by omega, by omega, (ixN_seq (by unfold ixN; rw [if_pos n0, if_pos (by omega)])).1, hw, ?_⟩
          refine ⟨p', vs', w, rfl, rfl, by rw [upd_ne pp]; exact t.keep _ _ b3 b7, ?_, ?_⟩
          · exact Nat.lt_of_le_of_lt (show vs'.length ≤ 1000 by omega) (by decide)
          · exact h.nx g F' _ σ _ (s2.putL hm2 (by rw [gt_sv_ne hij]; exact hz) b1 (t.no b3 b5) b6 b7 ((b4.mono t.mono).append (.cons (rw'.mono t.mono) .nil))) hk
        · exact hk.elim
      · exact hk.elim
    · exact q.elim, fun d d' ρ k q => by
    unfold dAppPop at q ⊢
    split at q
    · refine hb.mono ρ _ _ (fun k' q => ?_) q
      split at q
      · refine ⟨q.1, ?_⟩
        have q := q.2
        split at q
        · exact k.nx _ q
        · exact q.elim
      · exact q.elim
    · exact q.elim⟩
end
end PP

set_option Elab.async false
set_option linter.all false
set_option maxRecDepth 100000
set_option maxHeartbeats 1000000
namespace PP
open PySem PySem.Spec PyProof.Rows L2
/-- rows of ints: by their first difference, then the shorter one -/
def lxB : List Int → List Int → Bool
  | _, [] => false
  | [], _ :: _ => true
  | a :: r, b :: q => if a = b then lxB r q else decide (a < b)
theorem lxB_asym : ∀ x y : List Int, lxB x y = true → lxB y x = false
  | _, [], h => by simp [lxB] at h
  | [], _ :: _, _ => rfl
  | a :: r, b :: q, h => by
    unfold lxB at h ⊢
    by_cases e : a = b
    · rw [if_pos e] at h
      rw [if_pos e.symm]
      exact lxB_asym r q h
    · rw [if_neg e] at h
      rw [if_neg fun z => e z.symm]
      have := of_decide_eq_true h
      exact decide_eq_false (by omega)
theorem lxB_tr : ∀ x y z : List Int, lxB y x = false → lxB z y = false → lxB z x = false
  | [], _, z, _, _ => by cases z <;> simp_all [lxB]
  | a :: r, [], _, h, _ => by simp [lxB] at h
  | a :: r, b :: q, [], _, h => by simp [lxB] at h
  | a :: r, b :: q, c :: p, h1, h2 => by
    unfold lxB at h1 h2 ⊢
    by_cases e : b = a
    · rw [if_pos e] at h1
      by_cases e2 : c = b
      · rw [if_pos e2] at h2
        rw [if_pos (e2.trans e)]
        exact lxB_tr r q p h1 h2
      · rw [if_neg e2] at h2
        rw [if_neg (by omega)]
        have := of_decide_eq_false h2
        exact decide_eq_false (by omega)
    · rw [if_neg e] at h1
      have h1 := of_decide_eq_false h1
      by_cases e2 : c = b
      · rw [if_neg (by omega)]
        exact decide_eq_false (by omega)
      · rw [if_neg e2] at h2
        have := of_decide_eq_false h2
        rw [if_neg (by omega)]
        exact decide_eq_false (by omega)
theorem lxB_swo {α : Type} (k : α → List Int) : SrtO.Swo fun x y => lxB (k x) (k y) := ⟨fun x y => lxB_asym _ _, fun x y z => lxB_tr _ _ _⟩
section
variable {prog : Program} {w : World} {A : Around} {E : Value → Shared → Prop} {s : Shared} {Q : Bool → Shared → Prop}
theorem lx_lex {b fin : Bool} {xs ys : List Value} {ns ms : List Int} (i : Nat) (hx : IntsAre xs ns) (hy : IntsAre ys ms) (hf : fin = decide (ns.length < ms.length)) (h : Q (lxB ns ms) s) : PySem.W.KatLex prog w A b fin Q (xs.zip ys) i s := by
  induction hx generalizing ys ms i with
  | nil =>
    cases hy with
    | nil =>
      rw [hf]
      exact PySem.W.kat_nil h
    | cons q u hy =>
      rw [hf]
      exact PySem.W.kat_nil h
  | @cons p t xs ns hx ih =>
    cases hy with
    | nil =>
      rw [hf]
      exact PySem.W.kat_nil h
    | @cons q u ys ms hy =>
      show PySem.W.KatLex prog w A b fin Q ((Value.int p t, Value.int q u) :: xs.zip ys) i s
      refine PySem.W.kat_cons (wpAny_eqBool_int ?_)
      have hf' : fin = decide (ns.length < ms.length) := by rw [hf]; exact decide_eq_decide.mpr (by simp)
      by_cases e : p = q
      · subst e
        rw [beq_self_eq_true]
        unfold lxB at h
        rw [if_pos rfl] at h
        exact PySem.W.kat_yes (ih (i + 1) hy hf' h)
      · rw [show (p == q) = false from beq_eq_false_iff_ne.mpr e]
        unfold lxB at h
        rw [if_neg e] at h
        exact PySem.W.kat_no (TS.oneLt_ints _ h)
end
/-- what is sorted: rows of at least one int each -/
def RowsOk (h : Heap) (vs : List Value) : Prop := ∀ v, v ∈ vs → ∃ ns, TS.TupInts h v ns ∧ ns ≠ []
def rowKey (h : Heap) (v u : Value) : Bool := lxB (TS.intsOf h v) (TS.intsOf h u)
theorem RowsOk.firsts {h : Heap} : ∀ vs : List Value, RowsOk h vs → ∃ fs, PySem.W.KatTups h vs fs ∧ fs.length = vs.length ∧ ∀ f, f ∈ fs → ∃ n t, f = Value.int n t
  | [], _ => ⟨[], PySem.W.KatTups.nil, rfl, fun f hf => by simp at hf⟩
  | v :: vs, x => by
    obtain ⟨fs, k, hl, hi⟩ := RowsOk.firsts vs fun u hu => x u (List.mem_cons_of_mem _ hu)
    obtain ⟨ns, ⟨a, xs, rfl, ⟨o, ho, hc, n, hdt⟩, i⟩, hn⟩ := x v (List.mem_cons_self ..)
    obtain ⟨y, ys, e⟩ : ∃ y ys, xs.toList = y :: ys := by
      cases q : xs.toList with
      | nil =>
        rw [q] at i
        cases i
        exact absurd rfl hn
      | cons y ys => exact ⟨y, ys, rfl⟩
    obtain ⟨m, t, hy⟩ := i.all y (by rw [e]; exact List.mem_cons_self ..)
    refine ⟨y :: fs, PySem.W.KatTups.cons ho hc hdt ?_ k, by simp [hl], ?_⟩
    · have z := congrArg (fun l : List Value => l[0]?) e
      simpa using z
    · intro f hf
      rcases List.mem_cons.mp hf with rfl | hf
      · exact ⟨m, t, hy⟩
      · exact hi f hf
theorem rows_sortable {prog : Program} {w : World} {A : Around} {s : Shared} {a : Addr} {vs : List Value} (k : Value → List Int) (h0 : 0 < vs.length) (hp : ∀ v ∈ vs, TS.TupInts s.heap v (k v) ∧ k v ≠ []) (ha : ∀ o, s.heap.get? a = some o → o.cls ≠ .type "tuple") :
    SrtO.SortableO prog w A s a vs fun v u => lxB (k v) (k u) := by
  intro h' keep
  have hp' : ∀ v ∈ vs, TS.TupInts h' v (k v) ∧ k v ≠ [] := fun v hm => ⟨(hp v hm).1.keeps fun b o e c => keep b o (fun z => by subst z; exact ha o e c) e, (hp v hm).2⟩
  obtain ⟨fs, h1, h2, h3⟩ := RowsOk.firsts vs fun v hm => ⟨_, hp' v hm⟩
  refine ⟨tuples' true, fun Q E hq => ?_, fun p q hm hm' => ?_⟩
  · refine PySem.W.kat_kind (T := .type "int") h1 (by omega) (fun f hm => ?_) (by rfl) ?_
    · obtain ⟨x, t, rfl⟩ := h3 f hm
      exact PySem.W.Looks.now
    · have e : (Value.type "int" != Value.type "tuple") = true := by first | decide +kernel | rfl | decide
      rw [e]
      exact hq
  · obtain ⟨⟨a1, xs, e1, ⟨o1, ho1, _, n1, hd1⟩, i1⟩, _⟩ := hp' _ hm
    obtain ⟨⟨a2, ys, e2, ⟨o2, ho2, _, n2, hd2⟩, i2⟩, _⟩ := hp' _ hm'
    show wpAny (model prog w) A (keyLt' (tuples' true) p.1 q.1) (fun r s' => s' = _ ∧ r = lxB (k p.1) (k q.1)) (fun _ _ => False) _
    generalize k p.1 = ns at i1 ⊢
    generalize k q.1 = ms at i2 ⊢
    rw [e1, e2]
    refine PySem.W.kat_lt ho1 hd1 ho2 hd2 (lx_lex 0 i1 i2 ?_ ⟨rfl, rfl⟩)
    have l1 := i1.length
    have l2 := i2.length
    rw [Array.length_toList] at l1 l2
    exact decide_eq_decide.mpr (by omega)
theorem lxB_total : ∀ x y : List Int, lxB x y = false → lxB y x = false → x = y
  | [], [], _, _ => rfl
  | [], _ :: _, h, _ => by simp [lxB] at h
  | _ :: _, [], _, h => by simp [lxB] at h
  | a :: r, b :: q, h1, h2 => by
    unfold lxB at h1 h2
    by_cases e : a = b
    · rw [if_pos e] at h1
      rw [if_pos e.symm] at h2
      rw [e, lxB_total r q h1 h2]
    · rw [if_neg e] at h1
      rw [if_neg fun z => e z.symm] at h2
      have := of_decide_eq_false h1
      have := of_decide_eq_false h2
      omega
def Asc (l : List (List Int)) : Prop := l.Pairwise fun a b => lxB b a = false
theorem asc_uniq : ∀ {l m : List (List Int)}, l.Perm m → Asc l → Asc m → l = m
  | [], m, h, _, _ => (List.Perm.eq_nil h.symm).symm
  | x :: l, [], h, _, _ => absurd h.length_eq (by simp)
  | x :: l, y :: m, h, hl, hm => by
    have h1 : lxB y x = false := by
      rcases List.mem_cons.mp (h.mem_iff.mpr (List.mem_cons_self (a := y) (l := m))) with e | hy
      · rw [e]; exact (lxB_swo id).refl x
      · exact (List.pairwise_cons.mp hl).1 y hy
    have h2 : lxB x y = false := by
      rcases List.mem_cons.mp (h.mem_iff.mp (List.mem_cons_self (a := x) (l := l))) with e | hx
      · rw [e]; exact (lxB_swo id).refl y
      · exact (List.pairwise_cons.mp hm).1 x hx
    have e : x = y := lxB_total x y h2 h1
    subst e
    rw [asc_uniq h.cons_inv (List.pairwise_cons.mp hl).2 (List.pairwise_cons.mp hm).2]
def srtR (ks : List (List Int)) : List (List Int) := ks.mergeSort fun a b => !lxB b a
theorem srtR_perm (ks : List (List Int)) : (srtR ks).Perm ks := List.mergeSort_perm ks _
theorem srtR_asc (ks : List (List Int)) : Asc (srtR ks) := by
  have h := List.pairwise_mergeSort (le := fun a b => !lxB b a) (fun a b c h1 h2 => by
    have h1 : lxB b a = false := by simpa using h1
    have h2 : lxB c b = false := by simpa using h2
    simpa using lxB_tr _ _ _ h1 h2) (fun a b => by
    cases q : lxB b a with
    | false => rfl
    | true => rw [lxB_asym _ _ q]; rfl) ks
  exact h.imp fun {a b} z => by simpa using z
theorem srtR_eq {ks js : List (List Int)} (h : js.Perm ks) (a : Asc js) : js = srtR ks := asc_uniq (h.trans (srtR_perm ks).symm) a (srtR_asc ks)
def RowAt (K : PySem.W.Frag) (H : Hp) (x : V) (n : List Int) : Prop := ∃ t, x = V.ref t ∧ SqT K H t (n.map V.int)
def RowsP (P : V → List Int → Prop) : List V → List (List Int) → Prop
  | [], ks => ks = []
  | x :: xs, ks => ∃ n r, ks = n :: r ∧ P x n ∧ RowsP P xs r
/-- sorted(xs), xs rows of ints -/
def rSortedR (K : PySem.W.Frag) : List V → Hp → VK → Prop := fun vs H Q => ∃ (a : Addr) (xs : List V) (ks : List (List Int)) (P : V → List Int → Prop), vs = [V.ref a] ∧ SqL K H a xs ∧ RowsP P xs ks ∧ (∀ x n, P x n → RowAt K H x n) ∧ (∀ n ∈ ks, n ≠ []) ∧
  ∀ ys p, RowsP P ys (srtR ks) → H p = none → Q (.ref p) (upd H p (.lst ys))
theorem ints_inj : ∀ {n m : List Int}, n.map V.int = m.map V.int → n = m
  | [], [], _ => rfl
  | [], _ :: _, h => by simp at h
  | _ :: _, [], h => by simp at h
  | a :: r, b :: q, h => by
    simp only [List.map_cons, List.cons.injEq, V.int.injEq] at h
    rw [h.1, ints_inj h.2]
open Classical in
noncomputable def rowK (K : PySem.W.Frag) (H : Hp) (x : V) : List Int := if h : ∃ n, RowAt K H x n then h.choose else []
theorem rowK_eq {X : Cx} {pins : List (Addr × Obj)} {σ : L2.St} {s : Shared} {H : Hp} (I : L2.Inv X pins σ H s) {x : V} {n : List Int} (h : RowAt X.K H x n) : rowK X.K H x = n := by
  have e : ∃ n, RowAt X.K H x n := ⟨n, h⟩
  unfold rowK
  rw [dif_pos e]
  obtain ⟨t, q, ht⟩ := e.choose_spec
  obtain ⟨t', q', ht'⟩ := h
  rw [q] at q'
  cases q'
  exact ints_inj (I.tuple_inj ht ht')
theorem rowsP_map {P : V → List Int → Prop} {f : V → List Int} : ∀ {xs : List V}, (∀ x ∈ xs, P x (f x)) → RowsP P xs (xs.map f)
  | [], _ => rfl
  | x :: xs, h => ⟨_, _, rfl, h x List.mem_cons_self, rowsP_map fun y m => h y (List.mem_cons_of_mem _ m)⟩
theorem rowsP_k {X : Cx} {pins : List (Addr × Obj)} {σ : L2.St} {s : Shared} {H : Hp} (I : L2.Inv X pins σ H s) {P : V → List Int → Prop} (hP : ∀ x n, P x n → RowAt X.K H x n) : ∀ {xs : List V} {ks : List (List Int)}, RowsP P xs ks → ks = xs.map (rowK X.K H) ∧ ∀ x ∈ xs, P x (rowK X.K H x)
  | [], _, h => ⟨h, fun _ z => by simp at z⟩
  | x :: xs, _, ⟨n, r, e, h, t⟩ => by
    obtain ⟨e2, f⟩ := rowsP_k I hP t
    have q := rowK_eq I (hP _ _ h)
    refine ⟨by rw [e, e2, List.map_cons, q], fun y m => ?_⟩
    rcases List.mem_cons.mp m with z | m
    · rw [z, q]; exact h
    · exact f y m
theorem cr_sortedR {X : Cx} : CallR X (.builtin "sorted") (rSortedR X.K) := by
  intro pins s σ H vs us Q I r h
  obtain ⟨a, xs, ks, P, rfl, hs, hr, hP, hne, q⟩ := h
  obtain ⟨ek, hx'⟩ := rowsP_k I hP hr
  have hx : ∀ x ∈ xs, RowAt X.K H x (rowK X.K H x) := fun x m => hP _ _ (hx' x m)
  obtain ⟨its, rv, hl, hz⟩ := I.list hs
  obtain ⟨u, rfl, ru⟩ := vals1 r
  obtain rfl : u = Value.ref a := ru
  obtain ⟨e1, e2⟩ := refs_back rv fun x m => by
    obtain ⟨t, e, _⟩ := hx x m
    exact ⟨t, e⟩
  have T : ∀ v ∈ its, TS.TupInts s.heap v (rowK X.K H (backV v)) ∧ rowK X.K H (backV v) ≠ [] := fun v hv => by
    obtain ⟨t, rfl⟩ := e2 v hv
    have hm : V.ref t ∈ xs := by rw [e1]; exact List.mem_map.mpr ⟨_, hv, rfl⟩
    obtain ⟨t', e, ht⟩ := hx _ hm
    cases e
    obtain ⟨its2, r2, hT, _⟩ := I.tuple ht
    exact ⟨⟨t, its2.toArray, rfl, hT, r2.ints⟩, hne _ (by rw [ek]; exact List.mem_map.mpr ⟨_, hm, rfl⟩)⟩
  refine SrtO.sorted_ord (lxB_swo fun u => rowK X.K H (backV u)) hl.isList (by rw [← rv.length]; exact hz) (fun h2 h₁ a' ha kk => rows_sortable _ (by omega) (fun v hv => ⟨(T v hv).1.keeps fun b o e _ => (kk b o e).2, (T v hv).2⟩) fun o e c => ?_) fun out h1 h2 => ?_
  · have e' : some o = some (seqObj "list" its.toArray 0) := e.symm.trans ha
    cases e'
    exact absurd (Value.type.inj c) (by decide)
  · have h3 : ∀ u ∈ out, ∃ a, u = Value.ref a := fun u hu => e2 u (h2.perm.mem_iff.mp hu)
    obtain ⟨ep, he'⟩ := PyProof.Rows.sortedAll_at s.heap its out.toArray
    have hb : SrtO.Stb (fun x y => lxB (rowK X.K H x) (rowK X.K H y)) (out.map backV) xs := by
      rw [e1]
      exact SrtO.Stb.map (lxB_swo (rowK X.K H)) backV h2
    have pm := hb.perm
    have hs' : Asc ((out.map backV).map (rowK X.K H)) := List.pairwise_map.mpr (SrtO.srtd_map h1)
    have e3 := srtR_eq (ks := ks) (by rw [ek]; exact pm.map (rowK X.K H)) hs'
    refine ⟨.ref _, upd H (s.heap.objs.size + 1) (.lst (out.map backV)), I.laid (t' := s.toks) (fun _ _ => PyProof.Rows.sortedAll_old) (Nat.le_succ _) ⟨?_, out, ep, vals_back h3, he'⟩, rfl, q _ _ ?_ (I.hok.fresh (Nat.le_succ _))⟩
    · rw [hb.len]
      exact hz
    · rw [← e3]
      exact rowsP_map fun x m => hx' x (pm.mem_iff.mp m)
/-! ### in data -/
def rowD (n : List Int) : D := .tuple (n.map PyData.int)
def RowIn (K : PySem.W.Frag) (F : Hp) (x : V) (n : List Int) : Prop := Rp K F (rowD n) x
theorem RowIn.at {K : PySem.W.Frag} {F H : Hp} (l : Le F H) {x : V} {n : List Int} (h : RowIn K F x n) : RowAt K H x n := by
  obtain ⟨a, ys, e, h, r⟩ := h
  rw [RpL.ints_inv r] at h
  exact ⟨a, e, l.sqT h⟩
theorem RowsP.of {K : PySem.W.Frag} {F : Hp} : ∀ {ks : List (List Int)} {vs : List V}, RpL K F (ks.map rowD) vs → RowsP (RowIn K F) vs ks
  | [], _, h => by have h : _ = [] := h; subst h; rfl
  | n :: ks, _, ⟨x, xs, e, h, t⟩ => by
    subst e
    exact ⟨n, ks, rfl, h, RowsP.of t⟩
theorem RowsP.rp {K : PySem.W.Frag} {F : Hp} : ∀ {vs : List V} {ks : List (List Int)}, RowsP (RowIn K F) vs ks → RpL K F (ks.map rowD) vs
  | [], _, h => by have h : _ = [] := h; subst h; rfl
  | x :: xs, _, ⟨n, r, e, h, t⟩ => by
    subst e
    exact ⟨x, xs, rfl, h, RowsP.rp t⟩
def intsL : List D → Option (List Int)
  | [] => some []
  | .int i :: r => (intsL r).map (i :: ·)
  | _ :: _ => none
theorem intsL_map {ds : List D} {ns : List Int} (h : intsL ds = some ns) : ds = ns.map PyData.int := by
  induction ds generalizing ns with
  | nil => cases h; rfl
  | cons d ds ih =>
    cases d <;> first
      | (unfold intsL at h
         cases q : intsL ds with
         | none => rw [q] at h; cases h
         | some cs => rw [q] at h; cases h; rw [ih q]; rfl)
      | cases h
theorem intsL_of (ns : List Int) : intsL (ns.map PyData.int) = some ns := by
  induction ns with
  | nil => rfl
  | cons n ns ih => simp [intsL, ih]
section
variable {X : Cx} {e : Ent} {M : List Md} {a : Expr} {xs : List Expr} {tA : DA} {pos p : Pos}
/-- sorted of rows of ints: a new list -/
def kSortR : List D → (List D → Prop) → Prop := fun ds Q => ∃ ks : List (List Int), ds = [.list (ks.map rowD)] ∧ (∀ n ∈ ks, n ≠ []) ∧ Q ((srtR ks).map rowD)
theorem fe_sortR (hg : Gl X "sorted") (hm : X.mg "sorted" = none) (ha : AR X e M (a :: xs) tA) (he : starEach (a :: xs) X.env = (false, eval a X.env) :: starEach xs X.env := by rfl) (hpl : (backTo pos (starEach xs X.env)).any (·.1) = false := by rfl) :
    FE X e M (.Call (.Name "sorted" p) (a :: xs) [] pos) (fun ρ Q => tA ρ fun ds => kSortR ds Q) :=
  ⟨pe_imp (pe_callB cr_sortedR hg hm (by decide +kernel) ha.pa (he := he) (hpl := hpl)) fun σ H Q ⟨g, F, ρ, sr, q⟩ => ⟨g, F, ρ, sr, ha.mono ρ _ _ (fun ds hd F1 H1 vs s rv => by
    have bs := s.bs sr.bs
    obtain ⟨ks, rfl, hne, hd⟩ := hd
    obtain ⟨v, rfl, r⟩ := rv.one
    obtain ⟨p, vs, rfl, hp, m, r⟩ := r.lst bs
    exact ⟨p, vs, ks, RowIn X.K F1, rfl, .inl (.inl hp), .of r, fun x n h => h.at bs.sub, hne, fun ys l hy hn => hd F1 _ l ys (s.trans (bs.hide hn _)) (s.old hn) (s.sub.none hn) upd_same hy.rp⟩) q⟩,
    fun ρ Q Q' f q => ha.mono ρ _ _ (fun ds ⟨ks, h1, h2, q⟩ => ⟨ks, h1, h2, f _ q⟩) q⟩
/-- the ints, ascending -/
def srtI (ns : List Int) : List Int := ns.mergeSort fun a b => decide (a ≤ b)
theorem srtI_perm (ns : List Int) : (srtI ns).Perm ns := List.mergeSort_perm ns _
theorem srtI_asc (ns : List Int) : (srtI ns).Pairwise (· ≤ ·) := by
  have h := List.pairwise_mergeSort (le := fun a b : Int => decide (a ≤ b)) (fun a b c h1 h2 => by simp at *; omega) (fun a b => by simp; omega) ns
  exact h.imp fun {a b} z => by simpa using z
theorem int_uniq : ∀ {l m : List Int}, l.Perm m → l.Pairwise (· ≤ ·) → m.Pairwise (· ≤ ·) → l = m
  | [], m, h, _, _ => (List.Perm.eq_nil h.symm).symm
  | x :: l, [], h, _, _ => absurd h.length_eq (by simp)
  | x :: l, y :: m, h, hl, hm => by
    have h1 : x ≤ y := by
      rcases List.mem_cons.mp (h.mem_iff.mpr (List.mem_cons_self (a := y) (l := m))) with e | hy
      · omega
      · exact (List.pairwise_cons.mp hl).1 y hy
    have h2 : y ≤ x := by
      rcases List.mem_cons.mp (h.mem_iff.mp (List.mem_cons_self (a := x) (l := l))) with e | hx
      · omega
      · exact (List.pairwise_cons.mp hm).1 x hx
    have e : x = y := by omega
    subst e
    rw [int_uniq h.cons_inv (List.pairwise_cons.mp hl).2 (List.pairwise_cons.mp hm).2]
theorem srtI_eq {ks js : List Int} (h : js.Perm ks) (a : js.Pairwise (· ≤ ·)) : js = srtI ks := int_uniq (h.trans (srtI_perm ks).symm) a (srtI_asc ks)
def kSortI : List D → (List D → Prop) → Prop := fun ds Q => ∃ ks : List Int, ds = [.list (ks.map PyData.int)] ∧ Q ((srtI ks).map PyData.int)
theorem fe_sortI (hg : Gl X "sorted") (hm : X.mg "sorted" = none) (ha : AR X e M (a :: xs) tA) (he : starEach (a :: xs) X.env = (false, eval a X.env) :: starEach xs X.env := by rfl) (hpl : (backTo pos (starEach xs X.env)).any (·.1) = false := by rfl) :
    FE X e M (.Call (.Name "sorted" p) (a :: xs) [] pos) (fun ρ Q => tA ρ fun ds => kSortI ds Q) :=
  ⟨pe_imp (pe_callB cr_sortedI hg hm (by decide +kernel) ha.pa (he := he) (hpl := hpl)) fun σ H Q ⟨g, F, ρ, sr, q⟩ => ⟨g, F, ρ, sr, ha.mono ρ _ _ (fun ds hd F1 H1 vs s rv => by
    have bs := s.bs sr.bs
    obtain ⟨ks, rfl, hd⟩ := hd
    obtain ⟨v, rfl, r⟩ := rv.one
    obtain ⟨p, vs, rfl, hp, m, r⟩ := r.lst bs
    rw [RpL.ints_inv r] at hp
    exact ⟨p, ks, rfl, .inl (.inl hp), fun js l h1 h2 hn => by
      have e := srtI_eq h1 h2
      exact hd F1 _ l (js.map V.int) (s.trans (bs.hide hn _)) (s.old hn) (s.sub.none hn) upd_same (by rw [e]; exact RpL.ints _)⟩) q⟩,
    fun ρ Q Q' f q => ha.mono ρ _ _ (fun ds ⟨ks, h1, q⟩ => ⟨ks, h1, f _ q⟩) q⟩
end
end PP

set_option Elab.async false
set_option linter.all false
set_option maxRecDepth 100000
set_option maxHeartbeats 3200000
namespace PP
open PySem PySem.Spec PyProof.Rows L2
abbrev newSetO (w : World) : Obj := { cls := .type "set", dict := none, data := .set #[] 0 (.fresh 0 0 (!w.params.followText "set-order")) }
abbrev lstItO (l : Addr) : Obj := { cls := .type "list_iterator", data := .fields #[.ref l, .int 0 0] }
section
variable {P : Program} {w : World} {A : Around} {E : Value → Shared → Prop} {s : Shared}
/-- set(xs) of a list of ints, with its table -/
theorem pp_setL {l : Addr} {items : Array Value} {ns : List Int} {Q : Value → Shared → Prop} (free : A.handled = none) (hl : s.heap.IsList l items) (hit : IntsAre items.toList ns) (few : ns.length + 1 < scanBound)
    (go : ∀ (g : Heap) (tk c : Nat), SetR w g s.heap.objs.size (fun j => decide (j ∈ ns)) c → c ≤ ns.length → (∀ b o, s.heap.get? b = some o → g.get? b = some o) → Q (.ref s.heap.objs.size) { s with heap := g, toks := tk }) :
    wpAny (model P w) A (call (.type "set") [.ref l]) Q E s := by
  have sz : items.size = ns.length := by
    rw [← hit.length, Array.length_toList]
  have TC := F.called_set
  obtain ⟨m1, m2, isMro⟩ := TC.mro
  have x1 := TC.made
  have x2 := TC.sub
  have x3 := TC.notType
  have x4 := TC.canCreate
  have x5 := F.typeCall_set_1 (.ref l)
  refine wpAny_call (codeAny_of_tree (wpAny_pure ⟨Code.quiet_builtin _ (by decide +kernel), codeAny_builtin F.entry_type_call ?_⟩))
  rw [Around.under_plain (weight_type_call_type "set" [.ref l] []) rfl]
  repeat any_goals first | assumption | wp_step
  refine codeAny_mono (code_set_led1 (.ref l) (Q₁ := fun o t => o = .ref s.heap.objs.size ∧ t = { s with heap := s.heap.push (newSetO w) }) (E := E) ⟨rfl, rfl⟩) ?_
  rintro (e | f) t r
  · exact r
  cases f <;> first | exact r.elim | skip
  obtain ⟨e1, e2⟩ := r
  subst e1 e2
  have at0 : (s.heap.push (newSetO w)).get? s.heap.objs.size = some (newSetO w) := Heap.get?_push_size _ rfl
  have isT : Shared.TypeIs { s with heap := s.heap.push (newSetO w) } (.ref s.heap.objs.size) "set" := ⟨_, at0, rfl⟩
  have y1 := TC.init.lookup
  have y2 := TC.init.bind (.ref s.heap.objs.size)
  repeat any_goals first | assumption | wp_step
  have fin : ∀ r t, wants (fun v u => v = .none ∧ ∃ g tk c, u = { s with heap := g, toks := tk } ∧ SetR w g s.heap.objs.size (fun j => decide (j ∈ ns)) c ∧ c ≤ ns.length ∧ ∀ b o, s.heap.get? b = some o → g.get? b = some o) E r t → True := fun _ _ _ => trivial
  refine codeAny_mono (codeAny_call_builtin (R := wants (fun v u => v = .none ∧ ∃ g tk c, u = { s with heap := g, toks := tk } ∧ SetR w g s.heap.objs.size (fun j => decide (j ∈ ns)) c ∧ c ≤ ns.length ∧ ∀ b o, s.heap.get? b = some o → g.get? b = some o) E)
    TC.init.plain F.entry_set_init (check_set_init_1 isT ?_)) ?_
  · obtain ⟨⟨oc, od, oda, osl⟩, ho, hc, k, hd⟩ := hl
    simp only at hc hd
    subst hc hd
    have ho' : (s.heap.push (newSetO w)).get? l = some { cls := .type "list", dict := od, data := .seq items k, slots := osl } := Heap.get?_push_of_some _ ho
    have z1 := F.sub_list_set
    have z2 := F.sub_list_frozenset
    have z3 : (Value.type "list" == Value.type "dict") = false := by decide
    have isL : (s.heap.push (newSetO w)).IsList l items := ⟨_, ho', rfl, k, rfl⟩
    unfold Builtin.«set.__init__» noKeywords Builtin.Frozenset.updateFrom
    generalize hI : pyIter = it
    wp_walk
    subst hI
    refine wpAny_pyIter_list isL (wpAny_bind (wpAny_runValue ?_))
    have lt : l < s.heap.objs.size := Heap.lt_size ho
    have pz : (s.heap.push (newSetO w)).objs.size = s.heap.objs.size + 1 := Heap.size_push ..
    have n1 : l ≠ (s.heap.push (newSetO w)).objs.size := by rw [pz]; exact Nat.ne_of_lt (Nat.lt_succ_of_lt lt)
    have n2 : s.heap.objs.size ∉ [(s.heap.push (newSetO w)).objs.size, l] := by
      rw [pz]
      simp only [List.mem_cons, List.not_mem_nil, or_false, not_or]
      exact ⟨Nat.ne_of_lt (Nat.lt_succ_self _), Nat.ne_of_gt lt⟩
    refine set_update_ints ((Walks.list (by simp [free]) _ l n1 items).toS) s.heap.objs.size n2 ns sz few (fun i v hv => ?_) (items.size - 0) 0 _ (by omega) (Nat.zero_le _) ⟨⟨_, Heap.get?_push_size _ rfl, rfl, rfl⟩, isL.push _⟩ ?_ ?_
    · have li : i < ns.length := by rw [← sz]; exact (Array.getElem?_eq_some_iff.mp hv).1
      obtain ⟨t, e⟩ := IntsAre.int_at hit i v (by rw [Array.getElem?_toList]; exact hv)
      refine ⟨ns[i], t, List.getElem?_eq_getElem li, ?_⟩
      rw [e, List.getD_eq_getElem?_getD, List.getElem?_eq_getElem li]
      rfl
    · exact ⟨0, Nat.le_refl 0, setR_new_at (Heap.get?_push_of_some _ at0)⟩
    · rintro ⟨g, gs, dr, tk, os⟩ c mv hc R
      have e1 : gs = s.gens := mv.gens
      have e2 : dr = s.drawn := mv.drawn
      have e3 : os = s.os := mv.os
      subst e1 e2 e3
      refine wpAny_pure (wpAny_pure ⟨rfl, g, tk, c, rfl, R, by omega, fun b o e => ?_⟩)
      have lb : b < s.heap.objs.size := Heap.lt_size e
      refine mv.heap b o ?_ (Heap.get?_push_of_some _ (Heap.get?_push_of_some _ e))
      simp only [List.mem_cons, List.not_mem_nil, or_false, not_or, pz]
      exact ⟨Nat.ne_of_lt lb, Nat.ne_of_lt (Nat.lt_succ_of_lt lb)⟩
  · rintro (e | f) t r
    · exact r
    cases f <;> first | exact r.elim | skip
    obtain ⟨e1, g, tk, c, e2, R, hc, kp⟩ := r
    subst e1 e2
    repeat any_goals first | assumption | wp_step
    exact go _ _ _ R hc kp
end
theorem uniq_lt {ns ms : List Int} (h1 : ns.Pairwise (· < ·)) (h2 : ms.Pairwise (· < ·)) (h : ∀ k, k ∈ ns ↔ k ∈ ms) : ns = ms := by
  have n1 : ns.Nodup := h1.imp fun {a b} z => by omega
  have n2 : ms.Nodup := h2.imp fun {a b} z => by omega
  exact int_uniq ((List.perm_ext_iff_of_nodup n1 n2).mpr h) (h1.imp fun {a b} z => by omega) (h2.imp fun {a b} z => by omega)
/-- the ints, ascending, once each -/
def insI (k : Int) : List Int → List Int
  | [] => [k]
  | a :: r => if k < a then k :: a :: r else if k = a then a :: r else a :: insI k r
theorem mem_insI {k x : Int} : ∀ {l : List Int}, x ∈ insI k l ↔ x = k ∨ x ∈ l
  | [] => by simp [insI]
  | a :: r => by
    unfold insI
    split
    · simp
    · split
      · rename_i h
        subst h
        simp
      · rw [List.mem_cons, mem_insI, List.mem_cons]
        constructor
        · rintro (h | h | h)
          · exact .inr (.inl h)
          · exact .inl h
          · exact .inr (.inr h)
        · rintro (h | h | h)
          · exact .inr (.inl h)
          · exact .inl h
          · exact .inr (.inr h)
theorem insI_asc {k : Int} : ∀ {l : List Int}, l.Pairwise (· < ·) → (insI k l).Pairwise (· < ·)
  | [], _ => by simp [insI]
  | a :: r, h => by
    obtain ⟨h1, h2⟩ := List.pairwise_cons.mp h
    unfold insI
    split
    · rename_i c
      refine List.pairwise_cons.mpr ⟨fun x hx => ?_, h⟩
      rcases List.mem_cons.mp hx with e | hx
      · omega
      · have := h1 x hx
        omega
    · split
      · exact h
      · refine List.pairwise_cons.mpr ⟨fun x hx => ?_, insI_asc h2⟩
        rcases mem_insI.mp hx with e | hx
        · omega
        · exact h1 x hx
def setI (ns : List Int) : List Int := ns.foldr insI []
theorem mem_setI {k : Int} : ∀ {ns : List Int}, k ∈ setI ns ↔ k ∈ ns
  | [] => Iff.rfl
  | n :: ns => by
    show k ∈ insI n (setI ns) ↔ _
    rw [mem_insI, mem_setI, List.mem_cons]
theorem setI_asc : ∀ {ns : List Int}, (setI ns).Pairwise (· < ·)
  | [] => .nil
  | n :: ns => insI_asc (setI_asc (ns := ns))
theorem setI_nodup {ns : List Int} : (setI ns).Nodup := (setI_asc (ns := ns)).imp fun {a b} z => by omega
/-- set(xs), ints -/
def rSetIn (K : PySem.W.Frag) (w : World) : List V → Hp → VK → Prop := fun vs H Q => ∃ (a : Addr) (ns : List Int), vs = [V.ref a] ∧ SqL K H a (ns.map V.int) ∧ ns.length ≤ 4000 ∧
  ∀ p, H p = none → Q (.ref p) (upd H p (SetO w p (fun j => decide (j ∈ ns)) (setI ns).length))
theorem setR_card {w : World} {h : Heap} {a : Addr} {ns : List Int} {c : Nat} (R : SetR w h a (fun j => decide (j ∈ ns)) c) : c = (setI ns).length := by
  obtain ⟨o, es, ep, t, _, _, _, _, nd, hm, _, _, hn, _⟩ := R
  have pm : (es.toList.map keyOf).Perm (setI ns) := (List.perm_ext_iff_of_nodup nd setI_nodup).mpr fun k => by
    rw [← hm k, mem_setI]
    exact decide_eq_true_iff
  rw [← pm.length_eq, List.length_map, Array.length_toList]
  exact hn.symm
theorem cr_setL {X : Cx} (hc : X.calm = true) : CallR X (.type "set") (rSetIn X.K X.w) := by
  intro pins s σ H vs us Q I r h
  obtain ⟨a, ns, rfl, hs, hn, q⟩ := h
  obtain ⟨its, rv, hl, hz⟩ := I.list hs
  obtain ⟨u, rfl, ru⟩ := vals1 r
  obtain rfl : u = Value.ref a := ru
  refine pp_setL (ns := ns) (I.ok.hd hc) hl.isList (by simpa using rv.ints) (by unfold scanBound; omega) fun g tk c R hcn kp => ?_
  have ec := setR_card R
  subst ec
  exact ⟨.ref _, upd H s.heap.objs.size (SetO X.w s.heap.objs.size (fun j => decide (j ∈ ns)) (setI ns).length), I.laid (t' := tk) kp (Nat.le_refl _) (setO_new R), rfl, q _ (I.hok.fresh (Nat.le_refl _))⟩
section
variable {X : Cx} {e : Ent} {M : List Md} {a : Expr} {tA : DA} {pos p pos2 p2 : Pos}
/-- sorted(set(xs)), ints -/
def kSetI : List D → (List D → Prop) → Prop := fun ds Q => ∃ ks : List Int, ds = [.list (ks.map PyData.int)] ∧ ks.length ≤ 4000 ∧ (setI ks).length < 64 ∧ Q ((setI ks).map PyData.int)
theorem fe_sortSet (hc : X.calm = true) (hg : Gl X "sorted") (hm : X.mg "sorted" = none) (hg2 : Gl X "set") (hm2 : X.mg "set" = none) (ha : AR X e M [a] tA)
    (he2 : starEach [a] X.env = (false, eval a X.env) :: starEach [] X.env := by rfl)
    (he : starEach [.Call (.Name "set" p2) [a] [] pos2] X.env = (false, eval (.Call (.Name "set" p2) [a] [] pos2) X.env) :: starEach [] X.env := by rfl) :
    FE X e M (.Call (.Name "sorted" p) [.Call (.Name "set" p2) [a] [] pos2] [] pos) (fun ρ Q => tA ρ fun ds => kSetI ds Q) :=
  ⟨pe_imp (pe_callB (cr_sortedSet hc) hg hm (by decide +kernel) (pa_cons (pe_callTy (cr_setL hc) hg2 hm2 (by decide +kernel) ha.pa (he := he2) (hpl := by rfl)) pa_nil he) (he := he) (hpl := by rfl)) fun σ H Q ⟨g, F, ρ, sr, q⟩ => by
      refine ⟨g, F, ρ, sr, ha.mono ρ _ _ (fun ds hd F1 H1 vs s rv => ?_) q⟩
      have bs := s.bs sr.bs
      obtain ⟨ks, rfl, h1, h2, hd⟩ := hd
      obtain ⟨v, rfl, r⟩ := rv.one
      obtain ⟨p, vs, rfl, hp, m, r⟩ := r.lst bs
      rw [RpL.ints_inv r] at hp
      refine ⟨p, ks, rfl, .inl (.inl hp), h1, fun l hn => ?_⟩
      have b2 := bs.hide hn (SetO X.w l (fun j => decide (j ∈ ks)) (setI ks).length)
      refine ⟨l, _, _, rfl, upd_same, h2, fun ns q a1 a2 a3 hq => ?_⟩
      have e2 : ns = setI ks := uniq_lt a1 setI_asc fun k => by rw [a2 k, mem_setI]; exact decide_eq_true_iff
      subst e2
      have bs2 := b2.bs bs
      have st2 := (s.trans b2)
      exact hd F1 _ q _ (st2.trans (bs2.hide hq _)) (st2.old hq) (st2.sub.none hq) upd_same (RpL.ints _), fun ρ Q Q' f q => ha.mono ρ _ _ (fun ds ⟨ks, h1, h2, h3, q⟩ => ⟨ks, h1, h2, h3, f _ q⟩) q⟩
end
end PP

set_option Elab.async false
set_option linter.all false
set_option maxRecDepth 100000
set_option maxHeartbeats 1000000
namespace PP
open PySem PySem.Spec PyProof.Rows L2
section
variable {X : Cx} {e : Ent} {M : List Md} {a b : Expr} {ta tb : DT} {pos p1 p2 p3 spos : Pos}
def tIdx (ta tb : DT) : DT := fun ρ Q => ta ρ fun x => match x with
  | .list ds => tb ρ fun y => (match y with
    | .int k => ∃ (ns : List Int) (j : Nat), ds = ns.map PyData.int ∧ ns[j]? = some k ∧ (∀ m, m < j → ns[m]? ≠ some k) ∧ Q (.int (j : Nat))
    | _ => False)
  | _ => False
/-- xs.index(k), ints -/
theorem de_index (ha : RE X e M a ta) (hb : RE X e M b tb) (h1 : starEach [b] X.env = (false, eval b X.env) :: starEach [] X.env := by rfl)
    (hE : ∀ {to : TE} {t : TA}, PE X a to → PA X [b] t → PE X (.Call (.Attribute a "index" p1) [b] [] pos) (tBM X.K "list" (rIndex X.K) to t) := by
      intro to t h h'; exact pe_bm PySem.F.plainAttrs_list PySem.F.slot_list_index PySem.F.type_list_index mt_index h h') :
    DE X e M (.Call (.Attribute a "index" p1) [b] [] pos) (tIdx ta tb) :=
  ⟨pe_imp (hE ha.pe (pa_cons hb.pe pa_nil h1)) fun σ H Q ⟨g, F, ρ, s, q⟩ => ⟨g, F, ρ, s, ha.mono ρ _ _ (fun dx hx F1 H1 x s1 rx => by
    split at hx
    · rename_i ds
      obtain ⟨p, vs, rfl, hp, m, rl⟩ := rx.lst (s1.bs s.bs)
      refine ⟨.inl ⟨rfl, vs, .inl (.inl hp)⟩, g, F1, ρ, s.step s1, hb.mono ρ _ _ (fun dy hy F2 H2 y s2 ry => ?_) hx⟩
      split at hy
      · rename_i k
        obtain ⟨ns, j, e1, h1, h2, hq⟩ := hy
        subst e1
        have e3 := RpL.ints_inv rl
        subst e3
        obtain rfl : y = .int k := ry.int
        refine ⟨p, ns.map V.int, .int k, j, .int k, rfl, rfl, .inl (.inl (s2.keep _ _ hp m)), rfl, by simp [flatV], by rw [List.getElem?_map, h1]; rfl, by simp [eqV], fun i z hi hz => ?_, hq F2 H2 _ (s1.trans s2) rfl⟩
        rw [List.getElem?_map] at hz
        cases q : ns[i]? with
        | none => rw [q] at hz; cases hz
        | some w =>
          rw [q] at hz
          cases hz
          have := h2 i hi
          simp [eqV]
          intro z
          exact this (by rw [q, z])
      · exact hy.elim
    · exact hx.elim) q⟩, fun ρ Q Q' f q => ha.mono ρ _ _ (fun dx hx => by
    split at hx
    · refine hb.mono ρ _ _ (fun dy hy => ?_) hx
      split at hy
      · obtain ⟨ns, j, e1, h1, h2, hq⟩ := hy
        exact ⟨ns, j, e1, h1, h2, f _ hq⟩
      · exact hy.elim
    · exact hx.elim) q⟩

/-! ### short words for statements -/
theorem dr (i : Nat) {y : Str} (hN : X.N[i]? = some y := by rfl) (hv : Vis X.env.scope y := by first | exact Or.inl rfl | exact Or.inr (Or.inl rfl) | exact Or.inr (Or.inr rfl)) (hm : md M i = .own := by rfl) (hd : (y == ("__debug__" : Str)) = false := by decide) (hcd : (y == ("__classdict__" : Str)) = false := by decide) :
    DS X e M (.Return (some (.Name y p2)) pos) (fun d ρ => tV i ρ d.rt) := ds_retO hN hv hm hd hcd
theorem dapp (i : Nat) {y : Str} (ha : DE X e M a ta) (hN : X.N[i]? = some y := by rfl) (hv : Vis X.env.scope y := by first | exact Or.inl rfl | exact Or.inr (Or.inl rfl) | exact Or.inr (Or.inr rfl)) (hm : md M i = .own := by rfl) (hd : (y == ("__debug__" : Str)) = false := by decide) (hcd : (y == ("__classdict__" : Str)) = false := by decide)
    (h1 : starEach [a] X.env = (false, eval a X.env) :: starEach [] X.env := by rfl)
    (hE : ∀ {to : TE} {t : TA}, PE X (.Name y p1) to → PA X [a] t → PE X (.Call (.Attribute (.Name y p1) "append" p2) [a] [] pos) (tBM X.K "list" rAppend to t) := by
      intro to t h h'; exact pe_bm PySem.F.plainAttrs_list PySem.F.slot_list_append PySem.F.type_list_append mt_append h h')
    (hs : swapsWith (.Call (.Attribute (.Name y p1) "append" p2) [a] [] pos) none spos.line X.env = pure false := by rfl) : DS X e M (.Expr (.Call (.Attribute (.Name y p1) "append" p2) [a] [] pos) spos) (tApp i ta) := ds_append hN hv ha hm hd hcd h1 hE hs
theorem dpop (i j : Nat) {y z : Str} (hNd : X.N.Nodup) (hN : X.N[i]? = some y := by rfl) (hv : Vis X.env.scope y := by first | exact Or.inl rfl | exact Or.inr (Or.inl rfl) | exact Or.inr (Or.inr rfl)) (hj : X.N[j]? = some z := by rfl) (hx : Loc X.env.scope z := by first | exact .inl rfl | exact .inr rfl) (hm : md M i = .own := by rfl) (hm2 : md M j = .val := by rfl)
    (hd : (y == ("__debug__" : Str)) = false := by decide) (hcd : (y == ("__classdict__" : Str)) = false := by decide)
    (hE : ∀ {to : TE}, PE X (.Name y p1) to → PE X (.Call (.Attribute (.Name y p1) "pop" p2) [] [] pos) (tBM0 X.K "list" rPop to) := by
      intro to h; exact pe_bm0 PySem.F.plainAttrs_list PySem.F.slot_list_pop PySem.F.type_list_pop mt_pop h)
    (hs : swapsWith (.Call (.Attribute (.Name y p1) "pop" p2) [] [] pos) (some (.Name z p3)) spos.line X.env = pure false := by rfl)
    (hf : X.fn z = true ∨ X.env.scope.names.lookup z = some .local := by first | exact .inl rfl | exact .inr rfl | assumption) : DS X e M (.Assign [.Name z p3] (.Call (.Attribute (.Name y p1) "pop" p2) [] [] pos) spos) (tPop i j) := ds_pop hNd hN hv hj hx hm hm2 hd hcd hE hs hf
theorem dput (i : Nat) {y : Str} (ha : DE X e M a ta) (hb : RE X e M b tb) (hN : X.N[i]? = some y := by rfl) (hv : Vis X.env.scope y := by first | exact Or.inl rfl | exact Or.inr (Or.inl rfl) | exact Or.inr (Or.inr rfl)) (hm : md M i = .own := by rfl) (hd : (y == ("__debug__" : Str)) = false := by decide) (hcd : (y == ("__classdict__" : Str)) = false := by decide)
    (hE : ∀ {to ti te : TE}, PE X (.Name y p1) to → PE X b ti → PE X a te → PS X (.Assign [.Subscript (.Name y p1) b p2] a spos) (tAsg te (gSub to ti rSetL)) := by
      intro to ti te h1 h2 h3; exact ps_asg h3 (pg_sub h1 h2 set_list)) : DS X e M (.Assign [.Subscript (.Name y p1) b p2] a spos) (tPut i ta tb) := ds_put hN hv ha hb hm hd hcd hE
end
end PP

set_option Elab.async false
set_option linter.all false
set_option maxRecDepth 100000
set_option maxHeartbeats 1000000
namespace PP
open PySem PySem.Spec PyProof.Rows L2
/-! ### dicts as data -/
def kOf : D → Option Key
  | .int i => some (.inl i) | .str x => some (.inr x) | _ => none
theorem kOf_keyD (c : Key) : kOf (keyD c) = some c := by cases c <;> rfl
theorem kOf_eq {d : D} {c : Key} (h : kOf d = some c) : d = keyD c := by
  cases d <;> first
    | (cases h; rfl)
    | cases h
def dGet : List (D × D) → Key → Option D
  | [], _ => none
  | (k, d) :: r, c => if kOf k = some c then some d else dGet r c
def dPut (ks : List (D × D)) (c : Key) (d : D) : List (D × D) :=
  if (dGet ks c).isSome = true then ks.map (fun p => if kOf p.1 = some c then (p.1, d) else p) else ks ++ [(keyD c, d)]
section
variable {K : PySem.W.Frag} {F : Hp}
theorem RpK.len : ∀ {ks : List (D × D)} {ps : List (Key × V)}, RpK K F ks ps → ps.length = ks.length
  | [], _, h => by have h : _ = [] := h; subst h; rfl
  | (k, d) :: ks, _, ⟨c, x, r, e, _, _, t⟩ => by subst e; simp [t.len]
theorem RpK.get : ∀ {ks : List (D × D)} {ps : List (Key × V)} (c : Key), RpK K F ks ps → (valV ps c = none ∧ dGet ks c = none) ∨ ∃ v d, valV ps c = some v ∧ dGet ks c = some d ∧ Rp K F d v
  | [], _, c, h => by have h : _ = [] := h; subst h; exact .inl ⟨rfl, rfl⟩
  | (k, d) :: ks, _, c, ⟨b, x, r, e, hk, h, t⟩ => by
    subst e hk
    by_cases q : b = c
    · subst q
      exact .inr ⟨x, d, valV_pos rfl, by simp [dGet, kOf_keyD], h⟩
    · rw [valV_neg (p := (b, x)) q]
      have e2 : dGet ((keyD b, d) :: ks) c = dGet ks c := by
        simp only [dGet]
        rw [if_neg (by rw [kOf_keyD]; intro z; exact q (Option.some.inj z))]
      rw [e2]
      exact t.get c
theorem RpK.repl {d0 : D} {v0 : V} (c : Key) (h0 : Rp K F d0 v0) : ∀ {ks : List (D × D)} {ps : List (Key × V)}, RpK K F ks ps → RpK K F (ks.map fun p => if kOf p.1 = some c then (p.1, d0) else p) (ps.map fun p => if p.1 = c then (p.1, v0) else p)
  | [], _, h => by have h : _ = [] := h; subst h; rfl
  | (k, d) :: ks, _, ⟨b, x, r, e, hk, h, t⟩ => by
    subst e hk
    have ih := t.repl c h0
    by_cases q : b = c
    · subst q
      simp only [List.map_cons, kOf_keyD, if_true]
      exact ⟨b, v0, _, rfl, rfl, h0, ih⟩
    · have q2 : ¬ kOf (keyD b) = some c := by rw [kOf_keyD]; intro z; exact q (Option.some.inj z)
      simp only [List.map_cons, if_neg q, if_neg q2]
      exact ⟨b, x, _, rfl, rfl, h, ih⟩
theorem RpK.snoc {d0 : D} {v0 : V} (c : Key) (h0 : Rp K F d0 v0) : ∀ {ks : List (D × D)} {ps : List (Key × V)}, RpK K F ks ps → RpK K F (ks ++ [(keyD c, d0)]) (ps ++ [(c, v0)])
  | [], _, h => by have h : _ = [] := h; subst h; exact ⟨c, v0, [], rfl, rfl, h0, rfl⟩
  | (k, d) :: ks, _, ⟨b, x, r, e, hk, h, t⟩ => by
    subst e
    exact ⟨b, x, _, rfl, hk, h, t.snoc c h0⟩
theorem RpK.put {ks : List (D × D)} {ps : List (Key × V)} {d0 : D} {v0 : V} (c : Key) (h : RpK K F ks ps) (h0 : Rp K F d0 v0) : RpK K F (dPut ks c d0) (putK ps c v0) := by
  unfold dPut putK
  rw [valV_any]
  rcases h.get c with ⟨e1, e2⟩ | ⟨v, d, e1, e2, _⟩
  · rw [e1, e2]
    exact h.snoc c h0
  · rw [e1, e2]
    exact h.repl c h0
theorem keyD_kV {c : Key} {v : V} (h : Rp K F (keyD c) v) : v = kV c := by
  cases c with
  | inl i => exact h
  | inr x => exact h
end
theorem RdR.key {K : PySem.W.Frag} {g : Rg} {F H : Hp} {d : D} {v : V} {c : Key} (r : RdR K g F H d v) (h : kOf d = some c) : v = kV c := by
  rw [kOf_eq h] at r
  refine keyD_kV (K := K) (F := F) (r.rp ?_)
  cases c <;> rfl
section
variable {X : Cx} {e : Ent} {M : List Md} {a b : Expr} {ta tb : DT} {pos p1 p2 spos : Pos}
/-- d[k] -/
def tDg (ta tb : DT) : DT := fun ρ Q => ta ρ fun x => tb ρ fun y => match x with
  | .dict ks => (match kOf y with | some c => (match dGet ks c with | some d => Q d | none => False) | none => False)
  | _ => False
theorem de_dget (hu : X.A.units + 64 < cLine) (ha : RE X e M a ta) (hb : RE X e M b tb) (hs : NoSl b := by intro _ _; rfl) : DE X e M (.Subscript a b pos) (tDg ta tb) :=
  ⟨pe_imp (pe_dget (by omega) ha.pe hb.pe hs) fun σ H Q ⟨g, F, ρ, s, q⟩ => ⟨g, F, ρ, s, ha.mono ρ _ _ (fun dx hx F1 H1 x s1 rx => ⟨g, F1, ρ, s.step s1, hb.mono ρ _ _ (fun dy hy F2 H2 y s2 ry => by
    split at hy
    · rename_i ks
      split at hy
      · rename_i c hc
        obtain ⟨p, ps, rfl, hp, m, rl⟩ := rx.dct (s1.bs s.bs)
        rcases rl.get c with ⟨_, e2⟩ | ⟨v, d, e1, e2, r⟩
        · rw [e2] at hy; exact hy.elim
        · rw [e2] at hy
          exact ⟨p, v, rfl, .inl ⟨ps, c, .inl (s2.keep _ _ hp m), ry.key hc, e1.symm⟩, hy F2 H2 v (s1.trans s2) (r.mono s2.mono)⟩
      · exact hy.elim
    · exact hy.elim) hx⟩) q⟩, fun ρ Q Q' f q => ha.mono ρ _ _ (fun x q => hb.mono ρ _ _ (fun y q => by
    split at q
    · split at q
      · split at q
        · exact f _ q
        · exact q.elim
      · exact q.elim
    · exact q.elim) q) q⟩
/-- k in d, k not in d -/
def tDi (n : Bool) (tb ta : DT) : DT := fun ρ Q => tb ρ fun y => ta ρ fun x => match x with
  | .dict ks => (match kOf y with | some c => Q (.bool (if n then !(dGet ks c).isSome else (dGet ks c).isSome)) | none => False)
  | _ => False
theorem tDi_mono {n : Bool} (hb : Mono tb) (ha : Mono ta) : Mono (tDi n tb ta) := fun ρ Q Q' f q => hb ρ _ _ (fun y q => ha ρ _ _ (fun x q => by
    split at q
    · split at q
      · exact f _ q
      · exact q.elim
    · exact q.elim) q) q
theorem RpK.some {K : PySem.W.Frag} {F : Hp} {ks : List (D × D)} {ps : List (Key × V)} (h : RpK K F ks ps) (c : Key) : (valV ps c).isSome = (dGet ks c).isSome := by
  rcases h.get c with ⟨e1, e2⟩ | ⟨v, d, e1, e2, _⟩ <;> rw [e1, e2] <;> rfl
theorem di_core {n : Bool} (hb : RE X e M b tb) (ha : RE X e M a ta) : ∀ σ H Q, rdE X.K e M (tDi n tb ta) σ H Q → rdR X.K e M tb σ H fun y H1 => rdR X.K e M ta σ H1 fun x H2 => ∃ p o, x = .ref p ∧ DGet H2 p y o ∧ Q (.bl (if n then !o.isSome else o.isSome)) H2 := fun σ H Q ⟨g, F, ρ, s, q⟩ =>
  ⟨g, F, ρ, s, hb.mono ρ _ _ (fun dy hy F1 H1 y s1 ry => ⟨g, F1, ρ, s.step s1, ha.mono ρ _ _ (fun dx hx F2 H2 x s2 rx => by
    split at hx
    · rename_i ks
      split at hx
      · rename_i c hc
        obtain ⟨p, ps, rfl, hp, m, rl⟩ := rx.dct (s2.bs (s1.bs s.bs))
        refine ⟨p, valV ps c, rfl, .inl ⟨ps, c, .inl hp, ry.key hc, rfl⟩, ?_⟩
        rw [rl.some c]
        exact hx F2 H2 _ (s1.trans s2) rfl
      · exact hx.elim
    · exact hx.elim) hy⟩) q⟩
theorem de_din (hu : X.A.units + 64 < cLine) (hb : RE X e M b tb) (ha : RE X e M a ta) (hm : behindInMarks .In a = false := by rfl) : DE X e M (.Compare b [.In] [a] pos) (tDi false tb ta) :=
  ⟨pe_imp (pe_cmp (pc_din (by omega) hb.pe ha.pe) hm) fun σ H Q h => di_core (n := false) hb ha σ H Q h, tDi_mono hb.mono ha.mono⟩
theorem de_dnotIn (hu : X.A.units + 64 < cLine) (hb : RE X e M b tb) (ha : RE X e M a ta) (hm : behindInMarks .NotIn a = false := by rfl) : DE X e M (.Compare b [.NotIn] [a] pos) (tDi true tb ta) :=
  ⟨pe_imp (pe_cmp (pc_dnotin (by omega) hb.pe ha.pe) hm) fun σ H Q h => di_core (n := true) hb ha σ H Q h, tDi_mono hb.mono ha.mono⟩
theorem tst_core {t : DT} (m : Mono t) : ∀ σ H Q, rdB X.K e M (tTst t) σ H Q → rdE X.K e M t σ H fun v H1 => ∃ k, v = V.bl k ∧ Q k H1 := fun σ H Q ⟨g, F, ρ, s, q⟩ => ⟨g, F, ρ, s, m ρ _ _ (fun d hd F' H' v st r => by
    split at hd
    · rename_i k
      have r : v = .bl k := r
      exact ⟨k, r, hd F' H' st⟩
    · exact hd.elim) q⟩
theorem dc_din (hu : X.A.units + 64 < cLine) (hb : RE X e M b tb) (ha : RE X e M a ta) (hm : behindInMarks .In a = false := by rfl) : DC X e M (.Compare b [.In] [a] pos) (tTst (tDi false tb ta)) :=
  ⟨pt_imp (pt_cmp (pc_din (by omega) hb.pe ha.pe) hm) fun σ H Q h => di_core (n := false) hb ha σ H _ (tst_core (tDi_mono hb.mono ha.mono) σ H Q h), tTst_mono (tDi_mono hb.mono ha.mono)⟩
theorem dc_dnotIn (hu : X.A.units + 64 < cLine) (hb : RE X e M b tb) (ha : RE X e M a ta) (hm : behindInMarks .NotIn a = false := by rfl) : DC X e M (.Compare b [.NotIn] [a] pos) (tTst (tDi true tb ta)) :=
  ⟨pt_imp (pt_cmp (pc_dnotin (by omega) hb.pe ha.pe) hm) fun σ H Q h => di_core (n := true) hb ha σ H _ (tst_core (tDi_mono hb.mono ha.mono) σ H Q h), tTst_mono (tDi_mono hb.mono ha.mono)⟩
/-- x = {} -/
theorem ds_dnew (i : Nat) {y : Str} (hN : X.N.Nodup) (hi : X.N[i]? = some y := by rfl) (hx : Loc X.env.scope y := by first | exact .inl rfl | exact .inr rfl) (hm : md M i = .od := by rfl) (hs : swapsWith (.Dict [] [] p1) (some (.Name y p2)) pos.line X.env = pure false := by rfl)
    (hf : X.fn y = true ∨ X.env.scope.names.lookup y = some .local := by first | exact .inl rfl | exact .inr rfl | assumption) : DS X e M (.Assign [.Name y p2] (.Dict [] [] p1) pos) (fun d ρ => d.nx (sv ρ i (some (.dict [])))) :=
  ⟨ps_imp (L2.ps_set hN hi hx pe_dnewK hs hf) fun E σ H ⟨g, F, ρ, d, s, q, h⟩ => fun p hp =>
    h.nx g F _ _ _ (s.setm (s.bs.hide hp _) hp (by rw [hm]; exact ⟨p, [], [], rfl, rfl, upd_same, rfl, s.bs.sub.none hp, s.old hp, s.nmem hp⟩)) q, fun d d' ρ i q => i.nx _ q⟩
theorem SR.odAt {K : PySem.W.Frag} {g : Rg} {F H : Hp} {σ : L2.St} {ρ : En} (s : SR K e M g F H σ ρ) {i : Nat} {d : D} (h : gt ρ i = some d) (hm : md M i = .od) :
    ∃ p ps ks, d = .dict ks ∧ σ[i]? = some (some (.ref p)) ∧ H p = some (.dK ps) ∧ RpK K F ks ps ∧ F p = none ∧ e.H p = none ∧ ¬ g.mem p := by
  obtain ⟨v, h1, h2⟩ := s.slot i d h
  rw [hm] at h2
  obtain ⟨p, ps, ks, e1, e2, h3, h4, h5, h6, h7⟩ := h2
  subst e1
  exact ⟨p, ps, ks, e2, h1, h3, h4, h5, h6, h7⟩
/-- x[k] = e -/
def dDput (i : Nat) (te tk : DT) : DTS := fun d ρ => te ρ fun y => match gt ρ i with
  | some (.dict ks) => tk ρ fun k => (match kOf k with | some c => ks.length < sizeLine ∧ d.nx (sv ρ i (some (.dict (dPut ks c y)))) | none => False)
  | _ => False
theorem ds_dput (i : Nat) {y : Str} (hu : X.A.units + 64 < cLine) (ha : DE X e M a ta) (hb : RE X e M b tb) (hN : X.N[i]? = some y := by rfl) (hv : Vis X.env.scope y := by first | exact Or.inl rfl | exact Or.inr (Or.inl rfl) | exact Or.inr (Or.inr rfl)) (hm : md M i = .od := by rfl)
    (hd : (y == ("__debug__" : Str)) = false := by decide) (hcd : (y == ("__classdict__" : Str)) = false := by decide) (hs : swapsWith a (some (.Subscript (.Name y p1) b p2)) spos.line X.env = pure false := by rfl) :
    DS X e M (.Assign [.Subscript (.Name y p1) b p2] a spos) (dDput i ta tb) :=
  ⟨ps_imp (ps_dput (by omega) (pe_var hN hv hd hcd) hb.pe ha.pe hs) fun E σ H ⟨g, F, ρ, d, s, q, h⟩ => ⟨g, F, ρ, s, ha.mono ρ _ _ (fun x hx F1 H1 v t1 r1 => by
    split at hx
    · rename_i ks hk
      have s1 := s.step t1
      obtain ⟨p, ps, ks', e2, h1, h3, h4, h5, h6, h7⟩ := s1.odAt hk hm
      cases e2
      refine ⟨.ref p, h1, g, F1, ρ, s1, hb.mono ρ _ _ (fun k hk2 F2 H2 w t2 r2 => ?_) hx⟩
      split at hk2
      · rename_i c hc
        have kk := t2.keep _ _ h3 h7
        refine ⟨p, _, rfl, .inl ⟨ps, c, kk, r2.key hc, by rw [h4.len]; exact hk2.1, rfl⟩, ?_⟩
        have s2 := s1.step t2
        exact h.nx g F2 _ σ _ (s2.poke (by rw [hm]; rfl) hk h1 (t2.no h3 h5) h6 h7 (by rw [hm]; exact ⟨p, _, _, rfl, rfl, upd_same, (RpK.mono t2.mono h4).put c (r1.mono t2.mono), t2.no h3 h5, h6, h7⟩)) hk2.2
      · exact hk2.elim
    · exact hx.elim) q⟩, fun d d' ρ j q => ha.mono ρ _ _ (fun x q => by
    split at q
    · refine hb.mono ρ _ _ (fun k q => ?_) q
      split at q
      · exact ⟨q.1, j.nx _ q.2⟩
      · exact q.elim
    · exact q.elim) q⟩
end
end PP

set_option Elab.async false
set_option linter.all false
set_option maxRecDepth 100000
namespace PP
open PySem PySem.Spec PyProof.Rows L2
/-- the builtins' names stand free; sys is there -/
structure Nm (K : PySem.W.Frag) (mg : Str → Option Value) : Prop where
  free : ∀ y : Str, y ∈ (["len", "int", "abs", "tuple", "list", "max", "min", "range", "repr", "enumerate", "sorted", "set", "zip", "dict", "all", "any", "sum", "isinstance", "bool", "str"] : List Str) → mg y = none
namespace Nm
variable {K : PySem.W.Frag} {mg : Str → Option Value} (m : Nm K mg)
include m
theorem nlen : mg "len" = none := m.free _ (by decide)
theorem nint : mg "int" = none := m.free _ (by decide)
theorem nabs : mg "abs" = none := m.free _ (by decide)
theorem ntuple : mg "tuple" = none := m.free _ (by decide)
theorem nlist : mg "list" = none := m.free _ (by decide)
theorem nmax : mg "max" = none := m.free _ (by decide)
theorem nrange : mg "range" = none := m.free _ (by decide)
theorem nrepr : mg "repr" = none := m.free _ (by decide)
theorem nenumerate : mg "enumerate" = none := m.free _ (by decide)
theorem nsorted : mg "sorted" = none := m.free _ (by decide)
theorem nset : mg "set" = none := m.free _ (by decide)
theorem nall : mg "all" = none := m.free _ (by decide)
theorem nany : mg "any" = none := m.free _ (by decide)
theorem nisinstance : mg "isinstance" = none := m.free _ (by decide)
theorem nbool : mg "bool" = none := m.free _ (by decide)
theorem nstr : mg "str" = none := m.free _ (by decide)
theorem ndict : mg "dict" = none := m.free _ (by decide)
theorem nzip : mg "zip" = none := m.free _ (by decide)
end Nm
theorem _root_.L2.Room.un80 {k : Nat} {A : Around} (r : Room k A) : A.units + 80 < cLine := by have := r.un; omega
end PP

set_option Elab.async false
set_option linter.all false
set_option maxRecDepth 100000
set_option maxHeartbeats 2000000
namespace PP
open PySem PySem.Spec PyProof.Rows L2
theorem nat_ix {n : Int} {k : Nat} (h0 : 0 ≤ n) (h1 : n < k) : ∃ j : Nat, n = (j : Int) ∧ j < k := ⟨n.toNat, by omega, by omega⟩
theorem atI_at {xs : List D} {j : Nat} (h : j < xs.length) : atI xs (j : Int) = some xs[j] := by
  have e : xs[j]? = some xs[j] := List.getElem?_eq_getElem h
  unfold atI
  first
    | simp [ixN, h]
    | (split <;> simp_all)
/-- pick, of any items -/
def kPick : KF := fun ds Q => match ds with
  | [_, .list xs] => (0 < xs.length ∧ xs.length < 2 ^ 62) ∧ ∀ d ∈ xs, Q d
  | [_, .tuple xs] => (0 < xs.length ∧ xs.length < 2 ^ 62) ∧ ∀ d ∈ xs, Q d
  | _ => False
theorem kPick_mono : MonoC kPick := fun ds Q Q' f q => by
  unfold kPick at q ⊢
  split at q
  · exact ⟨q.1, fun d h => f _ (q.2 d h)⟩
  · exact ⟨q.1, fun d h => f _ (q.2 d h)⟩
  · exact q.elim
end PP
namespace PP
open PySem PySem.Spec PyProof.Rows L2
/-! ### loops, comprehensions: by what is left -/
theorem forD_step {tg : DG} {tb : DTS} {d : DEnds} (I : List D → En → Prop) {xs : List D} {ρ : En} (h0 : I xs ρ)
    (hs : ∀ x xs ρ (k : En → Prop), I (x :: xs) ρ → (∀ ρ', I xs ρ' → k ρ') → tg x ρ fun ρ' => tb { nx := k, ct := k, bk := d.nx, rt := d.rt, rs := d.rs } ρ') (hd : ∀ ρ, I [] ρ → d.nx ρ) : forD tg tb d xs ρ := by
  induction xs generalizing ρ with
  | nil => exact hd _ h0
  | cons x xs ih => exact hs x xs ρ _ h0 fun ρ' h => ih h
theorem compD_step {tg : DG} {tt : DB} {te : DT} {Q : List D → Prop} {ρ : En} (I : List D → List D → Prop) {xs acc : List D} (h0 : I xs acc)
    (hs : ∀ x xs acc (k : List D → Prop), I (x :: xs) acc → (∀ a, I xs a → k a) → tg x ρ fun ρ' => tt ρ' fun b => if b = true then te ρ' fun y => k (acc ++ [y]) else k acc) (hd : ∀ a, I [] a → Q a) : compD tg tt te Q ρ xs acc := by
  induction xs generalizing acc with
  | nil => exact hd _ h0
  | cons x xs ih => exact hs x xs acc (fun a => compD tg tt te Q ρ xs a) h0 fun a h => ih h
/-- item by item -/
def Al (R : D → D → Prop) : List D → List D → Prop
  | [], ys => ys = []
  | x :: xs, ys => ∃ y r, ys = y :: r ∧ R x y ∧ Al R xs r
theorem Al.len {R : D → D → Prop} : ∀ {xs ys : List D}, Al R xs ys → ys.length = xs.length
  | [], _, h => by have h : _ = [] := h; rw [h]
  | x :: xs, _, ⟨y, r, e, _, t⟩ => by rw [e, List.length_cons, List.length_cons, t.len]
theorem compD_rel {tg : DG} {te : DT} {Q : List D → Prop} {ρ : En} (R : D → D → Prop) {xs : List D} : ∀ {acc : List D}, (∀ x ∈ xs, ∀ k : D → Prop, (∀ y, R x y → k y) → tg x ρ fun ρ' => te ρ' k) → (∀ ys, Al R xs ys → Q (acc ++ ys)) → compD tg tYesD te Q ρ xs acc := by
  induction xs with
  | nil => intro acc _ hq; have := hq [] rfl; rw [List.append_nil] at this; exact this
  | cons x xs ih =>
    intro acc hs hq
    show tg x ρ fun ρ' => tYesD ρ' fun b => if b = true then te ρ' fun y => compD tg tYesD te Q ρ xs (acc ++ [y]) else compD tg tYesD te Q ρ xs acc
    exact hs x List.mem_cons_self (fun y => compD tg tYesD te Q ρ xs (acc ++ [y])) fun y hy => ih (fun z hz => hs z (List.mem_cons_of_mem _ hz)) fun ys h => by
      rw [List.append_assoc]
      exact hq (y :: ys) ⟨y, ys, rfl, hy, h⟩
theorem compD_map {tg : DG} {te : DT} {Q : List D → Prop} {ρ : En} (f : D → D) {xs : List D} (hs : ∀ x ∈ xs, ∀ k : D → Prop, k (f x) → tg x ρ fun ρ' => te ρ' k) (hq : Q (xs.map f)) : compD tg tYesD te Q ρ xs [] := by
  refine compD_rel (fun x y => y = f x) (fun x hx k hk => hs x hx k (hk _ rfl)) fun ys h => ?_
  have e : ys = xs.map f := by
    clear hs hq
    induction xs generalizing ys with
    | nil => exact h
    | cons x xs ih =>
      obtain ⟨y, r, e, ey, t⟩ := h
      rw [e, ey, ih _ t]; rfl
  rw [e]; exact hq
/-- kept where p, then f -/
theorem compD_filt {tg : DG} {tt : DB} {te : DT} {Q : List D → Prop} {ρ : En} (p : D → Bool) (f : D → D) {xs : List D} : ∀ {acc : List D}, (∀ x ∈ xs, ∀ (k : D → Prop) (k' : Prop), (p x = true → k (f x)) → (p x = false → k') → tg x ρ fun ρ' => tt ρ' fun b => if b = true then te ρ' k else k') → Q (acc ++ (xs.filter p).map f) → compD tg tt te Q ρ xs acc := by
  induction xs with
  | nil => intro acc _ hq; simp at hq; exact hq
  | cons x xs ih =>
    intro acc hs hq
    show tg x ρ fun ρ' => tt ρ' fun b => if b = true then te ρ' fun y => compD tg tt te Q ρ xs (acc ++ [y]) else compD tg tt te Q ρ xs acc
    refine hs x List.mem_cons_self (fun y => compD tg tt te Q ρ xs (acc ++ [y])) _ (fun hp => ?_) (fun hp => ?_)
    · refine ih (fun z hz => hs z (List.mem_cons_of_mem _ hz)) ?_
      rw [List.filter_cons_of_pos hp] at hq
      rw [List.append_assoc]
      exact hq
    · refine ih (fun z hz => hs z (List.mem_cons_of_mem _ hz)) ?_
      rw [List.filter_cons_of_neg (by rw [hp]; decide)] at hq
      exact hq
theorem Al.mono {R R' : D → D → Prop} (f : ∀ x y, R x y → R' x y) : ∀ {xs ys : List D}, Al R xs ys → Al R' xs ys
  | [], _, h => h
  | x :: xs, _, ⟨y, r, e, h, t⟩ => ⟨y, r, e, f _ _ h, t.mono f⟩
end PP
namespace PP
open PySem PySem.Spec PyProof.Rows L2
theorem kIx_l {xs : List D} {j : Nat} {Q : D → Prop} (h : j < xs.length) (q : Q xs[j]) : kIx (.list xs) (.int (j : Int)) Q := by
  simp only [kIx, atI_at h]; exact q
theorem kIx_t {xs : List D} {j : Nat} {Q : D → Prop} (h : j < xs.length) (q : Q xs[j]) : kIx (.tuple xs) (.int (j : Int)) Q := by
  simp only [kIx, atI_at h]; exact q
theorem cut_from {xs : List D} {k : Nat} (h : k ≤ xs.length) : cutD xs (some (k : Int)) none = xs.drop k := by
  unfold cutD
  rw [HT.sIx_nat, HT.sIx_none, Nat.min_eq_left h]
  exact List.take_of_length_le (by rw [List.length_drop]; omega)
theorem cut_to {xs : List D} {k : Nat} (h : k ≤ xs.length) : cutD xs none (some (k : Int)) = xs.take k := by
  unfold cutD
  rw [HT.sIx_nat, HT.sIx_none, Nat.min_eq_left h]
  simp
end PP
namespace PP
open PySem PySem.Spec PyProof.Rows L2
theorem memD_ints (k : Int) (ns : List Int) : memD (.int k) (ns.map PyData.int) = ns.any (· == k) := by
  unfold memD
  induction ns with
  | nil => rfl
  | cons n ns ih => simp_all [inV, vOf, eqV]
theorem flat_ints (ns : List Int) : (ns.map PyData.int).all flatD = true := by
  simp [flatD]
end PP

set_option Elab.async false
set_option linter.all false
set_option maxRecDepth 100000
set_option maxHeartbeats 2000000
namespace PP
open PySem PySem.Spec PyProof.Rows L2
/-- can be shown: at most c signs, at most k deep -/
structure Sw (c k : Nat) (d : D) : Prop where
  ok : d.showable = true
  dp : d.depth ≤ k
  ln : d.shown.length ≤ c
  ch : PyData.strOk d.shown = true
  nd : d.hasDict = false
theorem Sw.rpr {c k : Nat} {d : D} (h : Sw c k d) (hk : k ≤ 64) (hc : c ≤ sizeLine) : RprOk d := ⟨h.ok, Nat.le_trans h.dp hk, Nat.le_trans h.ln hc, h.nd⟩
theorem Sw.mono {c k c' k' : Nat} {d : D} (h : Sw c k d) (hc : c ≤ c') (hk : k ≤ k') : Sw c' k' d := ⟨h.ok, Nat.le_trans h.dp hk, Nat.le_trans h.ln hc, h.ch, h.nd⟩
theorem piled_le {c : Nat} : ∀ {ts : List Str}, (∀ t ∈ ts, t.length ≤ c) → piled ts ≤ (c + 2) * ts.length
  | [], _ => by simp [piled]
  | t :: ts, h => by
    have h1 := h t List.mem_cons_self
    have h2 := piled_le fun u hu => h u (List.mem_cons_of_mem t hu)
    rw [piled_cons, List.length_cons, Nat.mul_add]
    omega
theorem tup_len {c : Nat} {ts : List Str} (h : ∀ t ∈ ts, t.length ≤ c) : (tupleText ts).length ≤ (c + 2) * ts.length + 3 := by
  unfold tupleText
  rw [Str.length_append, Str.length_append]
  have e1 : ("(" : Str).length = 1 := by decide
  have e2 : ((if ts.length == 1 then ",)" else ")" : String) : Str).length ≤ 2 := by
    split
    · decide
    · decide
  have e3 : (Str.join ", " ts).length ≤ (c + 2) * ts.length := by
    cases ts with
    | nil => simp [Str.join]; decide
    | cons t r =>
      have := join_length_add (t :: r) (by simp)
      have := piled_le h
      omega
  omega
theorem strOk_add (a b : Str) : PyData.strOk (a ++ b) = (PyData.strOk a && PyData.strOk b) := by
  unfold PyData.strOk
  rw [Str.cps_append, Array.all_append]
theorem strOk_join : ∀ {ts : List Str}, (∀ t ∈ ts, PyData.strOk t = true) → PyData.strOk (Str.join ", " ts) = true
  | [], _ => by decide +kernel
  | [t], h => h t List.mem_cons_self
  | t :: u :: ts, h => by
    show PyData.strOk (t ++ ", " ++ Str.join ", " (u :: ts)) = true
    rw [strOk_add, strOk_add, h t List.mem_cons_self, strOk_join fun v hv => h v (List.mem_cons_of_mem _ hv)]
    decide +kernel
theorem tup_ok {ts : List Str} (h : ∀ t ∈ ts, PyData.strOk t = true) : PyData.strOk (tupleText ts) = true := by
  unfold tupleText
  rw [strOk_add, strOk_add, strOk_join h]
  split <;> decide +kernel
theorem shownAll_map : ∀ ds : List D, PyData.shownAll ds = ds.map PyData.shown
  | [] => rfl
  | d :: ds => by simp [PyData.shownAll, shownAll_map ds]
theorem showableAll_of : ∀ {ds : List D}, (∀ d ∈ ds, d.showable = true) → PyData.showableAll ds = true
  | [], _ => rfl
  | d :: ds, h => by simp [PyData.showableAll, h d List.mem_cons_self, showableAll_of fun e he => h e (List.mem_cons_of_mem _ he)]
theorem noDictAll : ∀ {ds : List D}, (∀ d ∈ ds, d.hasDict = false) → PyData.hasDictAll ds = false
  | [], _ => rfl
  | d :: ds, h => by simp [PyData.hasDictAll, h d List.mem_cons_self, noDictAll fun e he => h e (List.mem_cons_of_mem _ he)]
theorem depthAll_of {k : Nat} : ∀ {ds : List D}, (∀ d ∈ ds, d.depth ≤ k) → PyData.depthAll ds ≤ k
  | [], _ => by simp [PyData.depthAll]
  | d :: ds, h => by
    have := h d List.mem_cons_self
    have := depthAll_of fun e he => h e (List.mem_cons_of_mem d he)
    simp [PyData.depthAll]
    omega
theorem Sw.tup {c k : Nat} {ds : List D} (h : ∀ d ∈ ds, Sw c k d) : Sw ((c + 2) * ds.length + 3) (k + 1) (.tuple ds) := by
  refine ⟨by simp only [PyData.showable]; exact showableAll_of fun d hd => (h d hd).ok, ?_, ?_, ?_, ?_⟩
  · have := depthAll_of fun d hd => (h d hd).dp
    simp only [PyData.depth]
    omega
  · simp only [PyData.shown, shownAll_map]
    have := tup_len (c := c) (ts := ds.map PyData.shown) fun t ht => by
      obtain ⟨d, hd, rfl⟩ := List.mem_map.mp ht
      exact (h d hd).ln
    rwa [List.length_map] at this
  · simp only [PyData.shown, shownAll_map]
    exact tup_ok fun t ht => by
      obtain ⟨d, hd, rfl⟩ := List.mem_map.mp ht
      exact (h d hd).ch
  · simp only [PyData.hasDict]
    exact noDictAll fun d hd => (h d hd).nd
theorem Sw.int {i : Int} (h1 : -100 ≤ i) (h2 : i ≤ 100) : Sw 8 1 (.int i) := by
  have key : ∀ n : Fin 201, (PyData.int ((n.val : Int) - 100)).showable = true ∧ (PyData.int ((n.val : Int) - 100)).shown.length ≤ 8 ∧ PyData.strOk (PyData.int ((n.val : Int) - 100)).shown = true := by decide +kernel
  have e : i = (((i + 100).toNat : Nat) : Int) - 100 := by omega
  have := key ⟨(i + 100).toNat, by omega⟩
  rw [e]
  exact ⟨this.1, by simp [PyData.depth], this.2.1, this.2.2, rfl⟩
theorem Sw.bool (b : Bool) : Sw 8 1 (.bool b) := by
  cases b <;> exact ⟨by decide +kernel, by simp [PyData.depth], by decide +kernel, by decide +kernel, rfl⟩
end PP

set_option Elab.async false
set_option linter.all false
set_option maxRecDepth 100000
set_option maxHeartbeats 2000000
namespace PP
open PySem PySem.Spec PyProof.Rows L2
open Sem (wp)
section
variable {prog : Program} {w : World} {A : Around} {E : Value → Shared → Prop} {zc ti tu T i1 i2 : Addr} {fp1 fp2 : List Addr} {n1 n2 i : Nat} {P1 P2 : Nat → Value → Prop} {St1 St2 : Nat → Heap → Prop} {f : Bool} {oT : Obj}
/-- the next pair of a zip whose last pair is still held -/
theorem zh_item {s : Shared} {Q : Value → Shared → Prop} (S : ZipSep2 zc ti tu i1 i2 fp1 fp2) (D1 : Draws prog w A i1 fp1 n1 P1 St1) (D2 : Draws prog w A i2 fp2 n2 P2 St2)
    (hz : IsZipHeld s.heap zc ti tu T f) (hT : s.heap.get? T = some oT) (hI : IsTupOf2 s.heap ti (.ref i1) (.ref i2)) (st1 : St1 i s.heap) (st2 : St2 i s.heap) (l1 : i < n1) (l2 : i < n2)
    (go : ∀ x y g tk, P1 i x → P2 i y → IsZipHeld g zc ti tu T true → St1 (i + 1) g → St2 (i + 1) g → IsTupOf2 g s.heap.objs.size x y → g.objs.size = s.heap.objs.size + 1 →
      (∀ c o, c ≠ zc → c ≠ i1 → c ≠ i2 → s.heap.get? c = some o → g.get? c = some o) → Q (.ref s.heap.objs.size) { s with heap := g, toks := tk }) :
    wpAny (model prog w) A (Builtin.«zip.__next__» ⟨[.ref zc], []⟩) (fun fin t => ∃ v, fin = .done (.ret v) ∧ Q v t) E s := by
  obtain ⟨h0, gs, dr, tk0, os⟩ := s
  show wpAny _ _ (field (.ref zc) 2 >>= _) _ _ _
  refine wpAny_bind (wpAny_field hz rfl (x := .bool false) rfl ?_)
  show wpAny _ _ (field (.ref zc) 3 >>= _) _ _ _
  refine wpAny_bind (wpAny_field hz rfl (x := .ref ti) rfl (wpAny_bind (wpAny_seqItems hI rfl ?_)))
  show wpAny _ _ (Builtin.SmallTypes.ownedTupleIsFree (.ref zc) >>= _) _ _ _
  refine wpAny_bind (wpAny_tupleHeld_zip hz hT fun g1 hz1 b1 => ?_)
  simp only [Bool.false_eq_true, if_false]
  refine wpAny_bind ?_
  rw [← Array.forIn_toList]
  simp only [List.forIn_cons, List.forIn_nil]
  refine wpAny_bind (wpAny_bind (wpAny_holding ?_))
  show wpAny _ _ (Builtin.SmallTypes.nextOf (.ref i1) >>= _) _ _ ⟨g1, gs, dr, tk0, os⟩
  refine wpAny_bind (D1.item i _ _ _ l1 (D1.over st1 b1 S.zf1) fun x g2 tk1 px sn1 b2 => wpAny_pure (wpAny_pure ?_))
  refine wpAny_bind (wpAny_bind (wpAny_holding ?_))
  show wpAny _ _ (Builtin.SmallTypes.nextOf (.ref i2) >>= _) _ _ ⟨g2, gs, dr, tk1, os⟩
  replace b2 : Heap.SameBut i1 g1 g2 := b2
  refine wpAny_bind (D2.item i _ _ _ l2 (D2.over (D2.over st2 b1 S.zf2) b2 S.sep1_2) fun y g3 tk2 py sn2 b3 => wpAny_pure (wpAny_pure (wpAny_pure ?_)))
  replace b3 : Heap.SameBut i2 g2 g3 := b3
  show wpAny _ _ (newTuple [x, y] >>= _) _ _ _
  refine wpAny_bind (wpAny_newTuple (wpAny_pure ⟨_, rfl, ?_⟩))
  have sz : g3.objs.size = h0.objs.size := by rw [b3.1, b2.1, b1.1]
  have zz : IsZipHeld g3 zc ti tu T true := b3.extBut _ _ S.zi2 (b2.extBut _ _ S.zi1 hz1)
  have kp : ∀ c o, c ≠ zc → c ≠ i1 → c ≠ i2 → h0.get? c = some o → g3.get? c = some o := fun c o a1 a2 a3 e => b3.extBut _ _ a3 (b2.extBut _ _ a2 (b1.extBut _ _ a1 e))
  have s1 : St1 (i + 1) g3 := D1.over sn1 b3 S.sep2_1
  have top : IsTupOf2 (g3.push { cls := .type "tuple", data := .seq #[x, y] }) g3.objs.size x y := Heap.get?_push_size _ rfl
  have sz2 : (g3.push { cls := .type "tuple", data := .seq #[x, y] }).objs.size = g3.objs.size + 1 := Heap.size_push ..
  show Q (.ref g3.objs.size) _
  rw [sz] at top sz2 ⊢
  exact go x y _ _ px py (Heap.get?_push_of_some _ zz) (D1.frame _ _ _ s1 fun b _ o e => Heap.get?_push_of_some _ e) (D2.frame _ _ _ sn2 fun b _ o e => Heap.get?_push_of_some _ e) top sz2
    fun c o a1 a2 a3 e => Heap.get?_push_of_some _ (kp c o a1 a2 a3 e)
/-- its end -/
theorem zh_end {s : Shared} {Q : Fin → Shared → Prop} (S : ZipSep2 zc ti tu i1 i2 fp1 fp2) (D1 : Draws prog w A i1 fp1 n1 P1 St1) (D2 : Draws prog w A i2 fp2 n2 P2 St2)
    (hz : IsZipHeld s.heap zc ti tu T f) (hT : s.heap.get? T = some oT) (hI : IsTupOf2 s.heap ti (.ref i1) (.ref i2)) (st1 : St1 i s.heap) (st2 : St2 i s.heap) (h : i = n1 ∨ (i < n1 ∧ i = n2))
    (go : ∀ g tk e, (∀ c o, c ≠ zc → c ≠ i1 → c ≠ i2 → s.heap.get? c = some o → g.get? c = some o) → (∃ o, g.get? e = some o ∧ o.cls = .type "StopIteration") → E (.ref e) { s with heap := g, toks := tk }) :
    wpAny (model prog w) A (Builtin.«zip.__next__» ⟨[.ref zc], []⟩) Q E s := by
  obtain ⟨h0, gs, dr, tk0, os⟩ := s
  show wpAny _ _ (field (.ref zc) 2 >>= _) _ _ _
  refine wpAny_bind (wpAny_field hz rfl (x := .bool false) rfl ?_)
  show wpAny _ _ (field (.ref zc) 3 >>= _) _ _ _
  refine wpAny_bind (wpAny_field hz rfl (x := .ref ti) rfl (wpAny_bind (wpAny_seqItems hI rfl ?_)))
  show wpAny _ _ (Builtin.SmallTypes.ownedTupleIsFree (.ref zc) >>= _) _ _ _
  refine wpAny_bind (wpAny_tupleHeld_zip hz hT fun g1 hz1 b1 => ?_)
  simp only [Bool.false_eq_true, if_false]
  refine wpAny_bind ?_
  rw [← Array.forIn_toList]
  simp only [List.forIn_cons, List.forIn_nil]
  refine wpAny_bind (wpAny_bind (wpAny_holding ?_))
  show wpAny _ _ (Builtin.SmallTypes.nextOf (.ref i1) >>= _) _ _ ⟨g1, gs, dr, tk0, os⟩
  rcases h with rfl | ⟨lt, rfl⟩
  · refine wpAny_bind (D1.done _ _ _ (D1.over st1 b1 S.zf1) fun g2 e b2 he => ?_)
    exact go g2 tk0 e (fun c o a1 a2 _ x => b2 _ _ a2 (b1.extBut _ _ a1 x)) he
  · refine wpAny_bind (D1.item i _ _ _ lt (D1.over st1 b1 S.zf1) fun x g2 tk1 px sn1 b2 => wpAny_pure (wpAny_pure ?_))
    replace b2 : Heap.SameBut i1 g1 g2 := b2
    refine wpAny_bind (wpAny_bind (wpAny_holding ?_))
    show wpAny _ _ (Builtin.SmallTypes.nextOf (.ref i2) >>= _) _ _ ⟨g2, gs, dr, tk1, os⟩
    refine wpAny_bind (D2.done _ _ _ (D2.over (D2.over st2 b1 S.zf2) b2 S.sep1_2) fun g3 e b3 he => ?_)
    exact go g3 tk1 e (fun c o a1 a2 a3 x => b3 _ _ a3 (b2.extBut _ _ a2 (b1.extBut _ _ a1 x))) he
theorem pn_item {s : Shared} {Q : Option Value → Shared → Prop} (S : ZipSep2 zc ti tu i1 i2 fp1 fp2) (D1 : Draws prog w A.in1 i1 fp1 n1 P1 St1) (D2 : Draws prog w A.in1 i2 fp2 n2 P2 St2)
    (hz : IsZipHeld s.heap zc ti tu T f) (hT : s.heap.get? T = some oT) (hI : IsTupOf2 s.heap ti (.ref i1) (.ref i2)) (st1 : St1 i s.heap) (st2 : St2 i s.heap) (l1 : i < n1) (l2 : i < n2)
    (go : ∀ x y g tk, P1 i x → P2 i y → IsZipHeld g zc ti tu T true → St1 (i + 1) g → St2 (i + 1) g → IsTupOf2 g s.heap.objs.size x y → g.objs.size = s.heap.objs.size + 1 →
      (∀ c o, c ≠ zc → c ≠ i1 → c ≠ i2 → s.heap.get? c = some o → g.get? c = some o) → Q (some (.ref s.heap.objs.size)) { s with heap := g, toks := tk }) : wpAny (model prog w) A (pyNext (.ref zc)) Q E s := by
  have ty : s.TypeIs (.ref zc) "zip" := ⟨_, hz, rfl⟩
  have body := zh_item (A := A.in1) (Q := fun v t => wpAny (model prog w) A (pure (some v)) Q E t) (E := fun _ _ => False) S D1 D2 hz hT hI st1 st2 l1 l2 fun x y g tk a1 a2 a3 a4 a5 a6 a7 a8 => wpAny_pure (go x y g tk a1 a2 a3 a4 a5 a6 a7 a8)
  unfold pyNext
  refine wpAny_bind (wpAny_attempt (wpAny_callSpecial?_slot (name := Str.ofString "__next__") ty F.slot_zip_next (wpAny_call_entry F.slot_zip_next ty F.entry_zip_next ?_ (F.args_zip_next_1 _))))
  exact wpAny_mono body (fun _ _ x => x) fun _ _ x => x.elim
theorem pn_end {s : Shared} {Q : Option Value → Shared → Prop} (S : ZipSep2 zc ti tu i1 i2 fp1 fp2) (D1 : Draws prog w A.in1 i1 fp1 n1 P1 St1) (D2 : Draws prog w A.in1 i2 fp2 n2 P2 St2)
    (hz : IsZipHeld s.heap zc ti tu T f) (hT : s.heap.get? T = some oT) (hI : IsTupOf2 s.heap ti (.ref i1) (.ref i2)) (st1 : St1 i s.heap) (st2 : St2 i s.heap) (h : i = n1 ∨ (i < n1 ∧ i = n2))
    (go : ∀ g tk, (∀ c o, c ≠ zc → c ≠ i1 → c ≠ i2 → s.heap.get? c = some o → g.get? c = some o) → Q none { s with heap := g, toks := tk }) : wpAny (model prog w) A (pyNext (.ref zc)) Q E s := by
  have ty : s.TypeIs (.ref zc) "zip" := ⟨_, hz, rfl⟩
  unfold pyNext
  refine wpAny_bind (wpAny_attempt (wpAny_callSpecial?_slot (name := Str.ofString "__next__") ty F.slot_zip_next (wpAny_call_entry F.slot_zip_next ty F.entry_zip_next (zh_end S D1 D2 hz hT hI st1 st2 h fun g tk e kp he => ?_) (F.args_zip_next_1 _))))
  obtain ⟨o, ho, hc⟩ := he
  exact wpAny_bind (wpAny_isInstance (T := "StopIteration") (b := true) ⟨o, ho, hc⟩ isSubtype_stop (wpAny_pure (go g tk kp)))
end
/-- zip over any two sources, as the argument of dict() -/
theorem pairZ {prog : Program} {w : World} {zc ti tu i1 i2 : Addr} {fp1 fp2 : List Addr} {n1 n2 : Nat} {P1 P2 : Nat → Value → Prop} {St1 St2 : Nat → Heap → Prop} (S : ZipSep2 zc ti tu i1 i2 fp1 fp2)
    (D1 : ∀ A : Around, A.handled = none → Draws prog w A.in1 i1 fp1 n1 P1 St1) (D2 : ∀ A : Around, A.handled = none → Draws prog w A.in1 i2 fp2 n2 P2 St2)
    (L1 : ∀ i h, St1 i h → ∀ b ∈ fp1, ∃ o, h.get? b = some o) (L2 : ∀ i h, St2 i h → ∀ b ∈ fp2, ∃ o, h.get? b = some o) (A0 : Around) (h0 : A0.handled = none) :
    PairArg prog w "zip" zc (zc :: ti :: tu :: (fp1 ++ fp2)) [zc, tu, i1, i2] (min n1 n2) (fun i k v => P1 i k ∧ P2 i v)
      (fun h => IsZip h zc ti tu .none ∧ IsTupOf2 h ti (.ref i1) (.ref i2) ∧ (∃ a b, IsTupOf2 h tu a b) ∧ St1 0 h ∧ St2 0 h) := by
  have m1 : i1 ∈ zc :: ti :: tu :: (fp1 ++ fp2) := by simp [S.mem1]
  have m2 : i2 ∈ zc :: ti :: tu :: (fp1 ++ fp2) := by simp [S.mem2]
  refine { type := fun s ok => ⟨_, ok.1, rfl⟩, notDict := by decide, keep := ?_, there := ?_, sub := ?_, noKeys := ?_, iter := ?_ }
  · rintro h h' ⟨a1, a2, ⟨a, b, a3⟩, a4, a5⟩ kp
    exact ⟨kp _ _ a1, kp _ _ a2, ⟨a, b, kp _ _ a3⟩, (D1 A0 h0).frame _ _ _ a4 fun b _ => kp b, (D2 A0 h0).frame _ _ _ a5 fun b _ => kp b⟩
  · rintro h ⟨a1, a2, ⟨a, b, a3⟩, a4, a5⟩ c hc
    rcases List.mem_cons.mp hc with e | hc
    · exact ⟨_, e ▸ a1⟩
    rcases List.mem_cons.mp hc with e | hc
    · exact ⟨_, e ▸ a2⟩
    rcases List.mem_cons.mp hc with e | hc
    · exact ⟨_, e ▸ a3⟩
    rcases List.mem_append.mp hc with hc | hc
    · exact L1 _ _ a4 _ hc
    · exact L2 _ _ a5 _ hc
  · intro b hb
    simp only [List.mem_cons, List.not_mem_nil, or_false] at hb
    rcases hb with e | e | e | e
    · simp [e]
    · simp [e]
    · exact e ▸ m1
    · exact e ▸ m2
  · intro A s Q E hA ok go
    exact getAttrOr_miss_zip ok.1 rfl rfl rfl zip_no_keys (by decide +kernel) hA go
  · rintro A s d Q E hA ⟨a1, a2, ⟨a, b, a3⟩, a4, a5⟩ hd off go
    have o1 : d ≠ zc := fun e => off (by simp [e])
    have o2 : d ≠ ti := fun e => off (by simp [e])
    have o3 : d ≠ tu := fun e => off (by simp [e])
    have o4 : d ≠ i1 := fun e => off (e ▸ m1)
    have o5 : d ≠ i2 := fun e => off (e ▸ m2)
    have o6 : ∀ c ∈ fp1, c ≠ d := fun c hc e => off (by simp [← e, hc])
    have o7 : ∀ c ∈ fp2, c ≠ d := fun c hc e => off (by simp [← e, hc])
    refine wpAny_pyIter_zip a1 (go zc [zc, tu, i1, i2] (fun i h => IsTupOf2 h ti (.ref i1) (.ref i2) ∧ St1 i h ∧ St2 i h ∧
      ((IsZip h zc ti tu .none ∧ ∃ a b, IsTupOf2 h tu a b) ∨ ∃ T f oT, IsZipHeld h zc ti tu T f ∧ h.get? T = some oT ∧ T ≠ zc ∧ T ≠ i1 ∧ T ≠ i2 ∧ T ≠ d)) s.heap s.toks ?_ ⟨a2, a4, a5, .inl ⟨a1, a, b, a3⟩⟩ (fun _ _ e => e) fun b hb => .inl hb)
    refine { off := ?_, frame := ?_, item := ?_, done := ?_ }
    · intro hm
      simp only [List.mem_cons, List.not_mem_nil, or_false] at hm
      rcases hm with e | e | e | e
      · exact o1 e
      · exact o3 e
      · exact o4 e
      · exact o5 e
    · rintro i h h' ⟨c1, c2, c3, c4⟩ kp
      refine ⟨kp _ _ o2.symm c1, (D1 A hA).frame _ _ _ c2 fun b hb o e => kp b o (o6 b hb) e, (D2 A hA).frame _ _ _ c3 fun b hb o e => kp b o (o7 b hb) e, ?_⟩
      rcases c4 with ⟨c4, x, y, c5⟩ | ⟨T, f, oT, c4, c5, r1, r2, r3, r4⟩
      · exact .inl ⟨kp _ _ o1.symm c4, x, y, kp _ _ o3.symm c5⟩
      · exact .inr ⟨T, f, oT, kp _ _ o1.symm c4, kp _ _ r4 c5, r1, r2, r3, r4⟩
    · rintro i t Q1 E1 hi ⟨c1, c2, c3, c4⟩ hdl go1
      have q1 : i < n1 := by omega
      have q2 : i < n2 := by omega
      have lt : ∀ {c o}, t.heap.get? c = some o → t.heap.objs.size ≠ c := fun e => Nat.ne_of_gt (Heap.lt_size e)
      obtain ⟨_, e1⟩ := (D1 A hA).live _ _ c2
      obtain ⟨_, e2⟩ := (D2 A hA).live _ _ c3
      rcases c4 with ⟨c4, x0, y0, c5⟩ | ⟨T, f, oT, c4, c5, r1, r2, r3, r4⟩
      · refine wpAny_pyNext_zipD2_item S (D1 A hA) (D2 A hA) c4 c1 c5 c2 c3 q1 q2 fun x y g tk px py b1 b2 b3 b4 b5 b6 b7 => ?_
        exact go1 t.heap.objs.size x y g tk ⟨px, py⟩ (.inl ⟨_, b5, rfl, _, rfl⟩) ⟨b7 _ _ S.TIz S.TITO S.TIi1 S.TIi2 c1, b3, b4, .inr ⟨_, false, _, b1, b5, lt c4, lt e1, lt e2, Nat.ne_of_gt hdl⟩⟩
          fun c o hc e => b7 c o (fun x => hc (by simp [x])) (fun x => hc (by simp [x])) (fun x => hc (by simp [x])) (fun x => hc (by simp [x])) e
      · refine pn_item S (D1 A hA) (D2 A hA) c4 c5 c1 c2 c3 q1 q2 fun x y g tk px py b1 b3 b4 b5 b6 b7 => ?_
        exact go1 t.heap.objs.size x y g tk ⟨px, py⟩ (.inl ⟨_, b5, rfl, _, rfl⟩) ⟨b7 _ _ S.TIz S.TIi1 S.TIi2 c1, b3, b4, .inr ⟨T, true, oT, b1, b7 _ _ r1 r2 r3 c5, r1, r2, r3, r4⟩⟩
          fun c o hc e => b7 c o (fun x => hc (by simp [x])) (fun x => hc (by simp [x])) (fun x => hc (by simp [x])) e
    · rintro t Q1 E1 ⟨c1, c2, c3, c4⟩ go1
      have en : min n1 n2 = n1 ∨ (min n1 n2 < n1 ∧ min n1 n2 = n2) := by omega
      rcases c4 with ⟨c4, x0, y0, c5⟩ | ⟨T, f, oT, c4, c5, r1, r2, r3, r4⟩
      · exact wpAny_pyNext_zipD2_end S (D1 A hA) (D2 A hA) c4 c1 c5 c2 c3 (Nat.min_le_left ..) (Nat.min_le_right ..) (by omega) fun g tk kp => go1 g tk fun c o hc e => kp c o (fun x => hc (by simp [x])) (fun x => hc (by simp [x])) (fun x => hc (by simp [x])) (fun x => hc (by simp [x])) e
      · exact pn_end S (D1 A hA) (D2 A hA) c4 c5 c1 c2 c3 en fun g tk kp => go1 g tk fun c o hc e => kp c o (fun x => hc (by simp [x])) (fun x => hc (by simp [x])) (fun x => hc (by simp [x])) e
end PP

set_option Elab.async false
set_option linter.all false
set_option maxRecDepth 100000
set_option maxHeartbeats 2000000
namespace PP
open PySem PySem.Spec PyProof.Rows L2
open Sem (wp)
theorem kv_zip {P : Program} {w : World} : ∀ {ks : List Key} {ys : List V} {us vs : List Value}, Vals (ks.map kV) us → Vals ys vs → KV (ks.zip ys) (ks.zip vs) ∧ ∀ (i : Nat) (u v : Value), us[i]? = some u → vs[i]? = some v → ∃ k, (ks.zip vs)[i]? = some (k, v) ∧ (mixKind P w).is k u = true
  | [], _, _, _, .nil, _ => ⟨.nil, fun i u v h => by simp at h⟩
  | k :: ks, [], _, _, .cons _ _, .nil => ⟨.nil, fun i u v _ h => by simp at h⟩
  | k :: ks, y :: ys, _, _, .cons r t, .cons r2 t2 => by
    obtain ⟨h1, h2⟩ := kv_zip (P := P) (w := w) t t2
    refine ⟨.cons ⟨rfl, r2⟩ h1, fun i u v e1 e2 => ?_⟩
    cases i with
    | zero =>
      simp at e1 e2
      subst e1 e2
      exact ⟨k, rfl, kV_is r⟩
    | succ i =>
      obtain ⟨c, e3, e4⟩ := h2 i u v (by simpa using e1) (by simpa using e2)
      exact ⟨c, by simpa using e3, e4⟩
theorem sepN (N l t : Nat) (h1 : l < N) (h2 : t < N) : ZipSep2 (N + 4) (N + 2) (N + 3) N (N + 1) [N, l] [N + 1, t] := by
  have a1 : (N + 2 : Nat) ≠ N + 4 := by omega
  have a2 : (N + 3 : Nat) ≠ N + 4 := by omega
  have a3 : (N + 2 : Nat) ≠ N + 3 := by omega
  have a4 : (N + 2 : Nat) ≠ N := by omega
  have a5 : (N + 2 : Nat) ≠ N + 1 := by omega
  have a6 : (N + 4 : Nat) ≠ N := by omega
  have a7 : (N + 4 : Nat) ≠ l := by omega
  have a8 : (N + 3 : Nat) ≠ N := by omega
  have a9 : (N + 3 : Nat) ≠ l := by omega
  have b1 : (N + 4 : Nat) ≠ N + 1 := by omega
  have b2 : (N + 4 : Nat) ≠ t := by omega
  have b3 : (N + 3 : Nat) ≠ N + 1 := by omega
  have b4 : (N + 3 : Nat) ≠ t := by omega
  have b5 : (N : Nat) ≠ N + 1 := by omega
  have b6 : (N : Nat) ≠ t := by omega
  have b7 : (N + 1 : Nat) ≠ N := by omega
  have b8 : (N + 1 : Nat) ≠ l := by omega
  exact ⟨a1, a2, a3, a4, List.mem_cons_self, List.not_mem_cons_of_ne_of_not_mem a6 (List.not_mem_cons_of_ne_of_not_mem a7 (by simp)), List.not_mem_cons_of_ne_of_not_mem a8 (List.not_mem_cons_of_ne_of_not_mem a9 (by simp)),
    a5, List.mem_cons_self, List.not_mem_cons_of_ne_of_not_mem b1 (List.not_mem_cons_of_ne_of_not_mem b2 (by simp)), List.not_mem_cons_of_ne_of_not_mem b3 (List.not_mem_cons_of_ne_of_not_mem b4 (by simp)),
    List.not_mem_cons_of_ne_of_not_mem b5 (List.not_mem_cons_of_ne_of_not_mem b6 (by simp)), List.not_mem_cons_of_ne_of_not_mem b7 (List.not_mem_cons_of_ne_of_not_mem b8 (by simp))⟩
/-- dict(zip(xs, t)), xs a list of keys, t a tuple: the pairs, later ones over earlier ones -/
def tDz (K : PySem.W.Frag) (ta : TA) : TE := fun σ H Q => ta σ H fun vs H1 => ∃ (l t : Addr) (ks : List Key) (ys : List V), vs = [.ref l, .ref t] ∧ SqL K H1 l (ks.map kV) ∧ SqT K H1 t ys ∧ ∀ p, H1 p = none → Q (.ref p) (upd H1 p (.dK (mergeK [] (ks.zip ys))))
theorem pe_dzip {X : Cx} {a b : Expr} {ta : TA} {p p2 pos pos2 : Pos} (hc : X.calm = true) (hg : Gl X "dict") (hm : X.mg "dict" = none) (hg2 : Gl X "zip") (hm2 : X.mg "zip" = none) (ha : PA X [a, b] ta)
    (hs : starEach [a, b] X.env = (false, eval a X.env) :: starEach [b] X.env := by rfl) (hpl : (backTo pos2 (starEach [b] X.env)).any (·.1) = false := by rfl)
    (na : starEach [.Call (.Name "zip" p2) [a, b] [] pos2] X.env = (false, eval (.Call (.Name "zip" p2) [a, b] [] pos2) X.env) :: starEach [] X.env := by rfl) :
    PE X (.Call (.Name "dict" p) [.Call (.Name "zip" p2) [a, b] [] pos2] [] pos) (tDz X.K ta) := by
  refine ⟨fun pins s σ H Q I h => ?_⟩
  refine Call_ (ld_blt I hg hm boot_dict (PyProof.Rows.callWith_type1 (PyProof.Rows.args_cons ?_ na) na rfl))
  refine Call_ (ld_blt I hg2 hm2 boot_zip (PyProof.Rows.callWith_type1 (thn (ha.run pos2 pins s σ H _ I h) ?_) hs hpl))
  rintro us s1 ⟨vs, H1, I1, r1, l, t, ks, ys, rfl, hq1, hq2, q⟩
  obtain ⟨u1, u2, rfl, e1, e2⟩ := vals2 r1
  obtain rfl : u1 = Value.ref l := e1
  obtain rfl : u2 = Value.ref t := e2
  obtain ⟨us1, rv1, pl, z1⟩ := I1.list hq1
  obtain ⟨us2, rv2, pt, z2⟩ := I1.tuple hq2
  have hl : s1.heap.IsList l us1.toArray := pl.isList
  have ht : s1.heap.IsTuple t us2.toArray := pt
  have ll : l < s1.heap.objs.size := pl.lt
  have lt : t < s1.heap.objs.size := by
    obtain ⟨o, ho, _⟩ := pt
    exact Heap.lt_size ho
  obtain ⟨rel, has⟩ := kv_zip (P := X.prog) (w := X.w) rv1 rv2
  have hd := I1.ok.hd hc
  refine zip_begins2 (begins_list l us1.toArray) (begins_tuple t us2.toArray) hl ht fun g hz hTI hTO g1 g2 gsz kp => PyProof.Rows.args_nil ?_
  have S : ZipSep2 (s1.heap.objs.size + 4) (s1.heap.objs.size + 2) (s1.heap.objs.size + 3) s1.heap.objs.size (s1.heap.objs.size + 1) [s1.heap.objs.size, l] [s1.heap.objs.size + 1, t] := sepN _ _ _ ll lt
  have ne1 : l ≠ s1.heap.objs.size := Nat.ne_of_lt ll
  have ne2 : t ≠ s1.heap.objs.size + 1 := Nat.ne_of_lt (Nat.lt_succ_of_lt lt)
  have PZ := pairZ (prog := X.prog) (w := X.w) S (fun A h0 => Draws.list (A := A.in1) (by simp [h0]) _ l ne1 us1.toArray) (fun A h0 => Draws.tuple (A := A.in1) (by simp [h0]) _ t ne2 us2.toArray) (fun i h st b hb => ?_) (fun i h st b hb => ?_) X.A hd
  rotate_left
  · obtain ⟨⟨o, ho, _⟩, ⟨o2, ho2, _⟩⟩ := st
    rcases List.mem_cons.mp hb with e | hb
    · exact ⟨o, e ▸ ho⟩
    · exact ⟨o2, (List.mem_singleton.mp hb) ▸ ho2⟩
  · obtain ⟨⟨o, ho, _⟩, ⟨o2, ho2, _⟩⟩ := st
    rcases List.mem_cons.mp hb with e | hb
    · exact ⟨o, e ▸ ho⟩
    · exact ⟨o2, (List.mem_singleton.mp hb) ▸ ho2⟩
  have n1 : us1.length = ks.length := by rw [← rv1.length, List.length_map]
  have n2 : us2.length = ys.length := rv2.length.symm
  refine PySem.call_dict_pairs (s := { s1 with heap := g }) (knd := mixKind X.prog X.w) (kvs := ks.zip us2) PZ hd ⟨hz, hTI, ⟨_, _, hTO⟩, ⟨⟨_, g1, rfl, rfl⟩, hl.at fun o e => kp _ _ e⟩, ⟨⟨_, g2, rfl, rfl⟩, ht.at fun o e => kp _ _ e⟩⟩ ⟨?_, ?_⟩ ?_ fun h' tk hd' k2 => ?_
  · rw [List.length_zip, List.size_toArray, List.size_toArray, n1]
  · rintro i key v ⟨e1, e2⟩
    exact has i key v (by simpa using e1) (by simpa using e2)
  · rw [List.size_toArray, List.size_toArray]
    omega
  · have big : (g.objs.size == sysModules) = false := beq_eq_false_iff_ne.mpr (Nat.ne_of_gt (by rw [gsz]; exact Nat.lt_of_lt_of_le I1.big (Nat.le_add_right _ _)))
    have hlen : (mergeK [] (ks.zip ys)).length ≤ sizeLine := by
      refine Nat.le_trans (length_mergeK _ []) ?_
      rw [List.length_nil, Nat.zero_add, List.length_zip]
      omega
    have old : ∀ c o, s1.heap.get? c = some o → h'.get? c = some o := fun c o e => by
      have lc : c < s1.heap.objs.size := Heap.lt_size e
      refine k2 c o ?_ (kp c o e)
      have f0 : ∀ j : Nat, c ≠ s1.heap.objs.size + j := fun j => Nat.ne_of_lt (Nat.lt_of_lt_of_le lc (Nat.le_add_right _ _))
      simp only [List.mem_cons, List.not_mem_nil, or_false, not_or]
      exact ⟨f0 4, f0 3, f0 0, f0 1⟩
    have fr : H1 g.objs.size = none := I1.hok.fresh (by omega)
    exact ⟨.ref g.objs.size, upd H1 g.objs.size (.dK (mergeK [] (ks.zip ys))), I1.laid (t' := tk) old (by omega) (show ObjOk X.prog X.w _ _ _ (.dK (mergeK [] (ks.zip ys))) from ⟨hlen, big, merged [] (ks.zip us2), KV.merge rel .nil, hd'⟩), rfl, q _ fr⟩
/-! ### in data -/
def mergeD (acc : List (D × D)) : List (Key × D) → List (D × D)
  | [] => acc
  | (c, d) :: r => mergeD (dPut acc c d) r
theorem RpK.merge {K : PySem.W.Frag} {F : Hp} : ∀ {cs : List Key} {ds : List D} {vs : List V} {acc : List (D × D)} {ps : List (Key × V)}, RpK K F acc ps → RpL K F ds vs → RpK K F (mergeD acc (cs.zip ds)) (mergeK ps (cs.zip vs))
  | [], _, _, _, _, h, _ => h
  | c :: cs, [], _, _, _, h, r => by have r : _ = [] := r; subst r; exact h
  | c :: cs, d :: ds, _, _, _, h, ⟨x, xs, e, r, t⟩ => by
    subst e
    exact RpK.merge (cs := cs) (h.put c r) t
theorem keys_map {K : PySem.W.Frag} {F : Hp} : ∀ {cs : List Key} {vs : List V}, RpL K F (cs.map keyD) vs → vs = cs.map kV
  | [], _, h => h
  | c :: cs, _, ⟨x, xs, e, h, t⟩ => by
    subst e
    rw [List.map_cons, ← keys_map t, keyD_kV h]
section
variable {X : Cx} {e : Ent} {M : List Md} {a b : Expr} {tA : DA} {pos p pos2 p2 : Pos}
def kDz : KC := fun ds Q => ∃ (cs : List Key) (ys : List D), ds = [.list (cs.map keyD), .tuple ys] ∧ Q (.dict (mergeD [] (cs.zip ys)))
theorem de_dzip (hc : X.calm = true) (hg : Gl X "dict") (hm : X.mg "dict" = none) (hg2 : Gl X "zip") (hm2 : X.mg "zip" = none) (ha : AR X e M [a, b] tA)
    (hs : starEach [a, b] X.env = (false, eval a X.env) :: starEach [b] X.env := by rfl) (hpl : (backTo pos2 (starEach [b] X.env)).any (·.1) = false := by rfl)
    (na : starEach [.Call (.Name "zip" p2) [a, b] [] pos2] X.env = (false, eval (.Call (.Name "zip" p2) [a, b] [] pos2) X.env) :: starEach [] X.env := by rfl) :
    DE X e M (.Call (.Name "dict" p) [.Call (.Name "zip" p2) [a, b] [] pos2] [] pos) (tCl kDz tA) :=
  ⟨pe_imp (pe_dzip hc hg hm hg2 hm2 ha.pa hs hpl na) fun σ H Q ⟨g, F, ρ, sr, q⟩ => ⟨g, F, ρ, sr, ha.mono ρ _ _ (fun ds hd F1 H1 vs s rv => by
    have bs := s.bs sr.bs
    obtain ⟨cs, ys, rfl, hd⟩ := hd
    obtain ⟨v, v', rfl, r, r'⟩ := rv.two
    obtain ⟨l, ks, rfl, hp, m, rl⟩ := r.lst bs
    obtain ⟨t, us, rfl, ht, ru⟩ := r'.tup
    rw [keys_map rl] at hp
    refine ⟨l, t, cs, us, rfl, .inl (.inl hp), bs.sub.sqT ht, fun z hn => ?_⟩
    have hf := bs.sub.none hn
    exact hd (upd F1 z (.dK (mergeK [] (cs.zip us)))) _ _ (s.trans (bs.alloc hn _)) ⟨z, _, rfl, upd_same, RpK.mono (.new hf) (RpK.merge rfl ru)⟩) q⟩,
    tCl_mono (fun ds Q Q' f ⟨cs, ys, h1, q⟩ => ⟨cs, ys, h1, f _ q⟩) ha.mono⟩
end
end PP

set_option Elab.async false
set_option linter.all false
set_option maxRecDepth 100000
set_option maxHeartbeats 3000000
namespace PP
theorem Nm.nmin {K : PySem.W.Frag} {mg : PySem.Str → Option PySem.Value} (m : Nm K mg) : mg "min" = none := m.free _ (by decide)
open PySem PySem.Spec PyProof.Rows L2
section
variable {X : Cx} {e : Ent} {M : List Md} {a b c : Expr} {xs : List Expr} {ta tb tc : DT} {tA : DA} {pos p p1 p2 p3 p4 p5 pos2 spos : Pos}
/-- min(i, j) -/
def kMin2 : KC := fun ds Q => match ds with
  | [.int i, .int j] => Q (.int (if j < i then j else i))
  | _ => False
theorem kMin2_mono : MonoC kMin2 := fun ds Q Q' f q => by
  unfold kMin2 at q ⊢
  split at q
  · exact f _ q
  · exact q.elim
theorem says_min2 : SaysC X (fun xs H Q => ∃ i j, xs = [.int i, .int j] ∧ Q (.int (if j < i then j else i)) H) kMin2 := by
  intro g F H ds vs Qv q bs rv hk k
  unfold kMin2 at hk
  split at hk
  · obtain ⟨v, v', rfl, r, r'⟩ := rv.two
    exact ⟨_, _, by rw [r.int, r'.int], k _ F H _ hk bs.refl rfl⟩
  · exact hk.elim
theorem de_min2 (hc : X.calm = true) (hg : Gl X "min") (hm : X.mg "min" = none) (ha : AR X e M (a :: xs) tA) (he : starEach (a :: xs) X.env = (false, eval a X.env) :: starEach xs X.env := by rfl) (hpl : (backTo pos (starEach xs X.env)).any (·.1) = false := by rfl) :
    DE X e M (.Call (.Name "min" p) (a :: xs) [] pos) (tCl kMin2 tA) := de_callB (call_min2 hc) says_min2 kMin2_mono hg hm (by decide +kernel) ha (he := he) (hpl := hpl)
theorem gt_lt : ∀ {ρ : En} {i : Nat} {d : D}, gt ρ i = some d → i < ρ.length
  | [], i, d, h => by simp [gt] at h
  | x :: r, 0, d, h => by simp
  | x :: r, i + 1, d, h => by
    have := gt_lt (ρ := r) (i := i) (d := d) (by simpa [gt] using h)
    simp
    omega
/-- x[i], x[j] = a pair -/
def dPut2 (i : Nat) (te tk tl : DT) : DTS := fun d ρ => match gt ρ i with
  | some (.list xs) => te ρ fun y => match y with
    | .tuple [u, w] => tk ρ fun k => match k with
      | .int n => (match ixN xs.length n with
        | some j => tl (sv ρ i (some (.list (xs.set j u)))) fun k2 => match k2 with
          | .int m => (match ixN xs.length m with
            | some j2 => d.nx (sv (sv ρ i (some (.list (xs.set j u)))) i (some (.list ((xs.set j u).set j2 w))))
            | none => False)
          | _ => False
        | none => False)
      | _ => False
    | _ => False
  | _ => False
theorem ds_put2 (i : Nat) {y : Str} {kt : Nat} (hc : X.calm = true) (ha : DE X e M a ta) (hb : RE X e M b tb) (hb2 : RE X e M c tc) (hN : X.N[i]? = some y := by rfl) (hv : Vis X.env.scope y := by first | exact Or.inl rfl | exact Or.inr (Or.inl rfl) | exact Or.inr (Or.inr rfl)) (hm : md M i = .own := by rfl) (hd : (y == ("__debug__" : Str)) = false := by decide) (hcd : (y == ("__classdict__" : Str)) = false := by decide)
    (hE : ∀ {to ti to2 ti2 te : TE}, PE X (.Name y p1) to → PE X b ti → PE X (.Name y p3) to2 → PE X c ti2 → PE X a te → PS X (.Assign [.Tuple [.Subscript (.Name y p1) b p2, .Subscript (.Name y p3) c p4] kt p5] a spos) (tAsg te (gTup X.K 2 (gCons (gSub to ti rSetL) (gCons (gSub to2 ti2 rSetL) gNil)))) := by
      intro to ti to2 ti2 te h1 h2 h3 h4 h5; exact ps_asg h5 (pg_tup (by first | rfl | assumption) (pgs_cons (pg_sub h1 h2 set_list) (pgs_cons (pg_sub h3 h4 set_list) pgs_nil)))) :
    DS X e M (.Assign [.Tuple [.Subscript (.Name y p1) b p2, .Subscript (.Name y p3) c p4] kt p5] a spos) (dPut2 i ta tb tc) :=
  ⟨ps_imp (hE (pe_var hN hv hd hcd) hb.pe (pe_var hN hv hd hcd) hb2.pe ha.pe) fun E σ H ⟨g, F, ρ, d, s, q, h⟩ => by
    unfold dPut2 at q
    split at q
    · rename_i xs hx
      refine ⟨g, F, ρ, s, ha.mono ρ _ _ (fun y hy F' H' v t r => ?_) q⟩
      split at hy
      · rename_i u w
        obtain ⟨tp, zs, rfl, hz, rz⟩ := r
        obtain ⟨vu, z1, rfl, ru, rz⟩ := rz
        obtain ⟨vw, z2, rfl, rw', rz⟩ := rz
        have rz : z2 = [] := rz
        subst rz
        have s1 := s.step t
        obtain ⟨p, vs, ds, e2, h1, h3, h4, h5, h6, h7⟩ := s1.ownAt hx hm
        cases e2
        refine ⟨tp, _, rfl, t.sub.sqT hz, rfl, ⟨_, _, rfl, .ref p, h1, g, F', ρ, s1, hb.mono ρ _ _ (fun k hk F2 H2 k' t2 r2 => ?_) hy⟩⟩
        split at hk
        · rename_i n
          split at hk
          · rename_i j hj
            have s2 := s1.step t2
            have x1 := t2.keep _ _ h3 h7
            have x5 := t2.no h3 h5
            refine ⟨p, vs, n, j, rfl, r2.int, x1, by rw [h4.length]; exact hj, _, _, rfl, .ref p, h1, ?_⟩
            have s3 := s2.putL (ds := xs.set j u) (vs := vs.set j vu) hm hx h1 x5 h6 h7 ((h4.mono t2.mono).set j (ru.mono t2.mono))
            refine ⟨g, F2, _, s3, hb2.mono _ _ _ (fun k2 hk2 F3 H3 k3 t3 r3 => ?_) hk⟩
            split at hk2
            · rename_i m
              split at hk2
              · rename_i j2 hj2
                have hx3 : gt (sv ρ i (some (.list (xs.set j u)))) i = some (.list (xs.set j u)) := by
                  rw [gt_sv, if_pos rfl]
                  have : i < ρ.length := gt_lt hx
                  rw [if_pos this]
                have y1 := t3.keep p _ upd_same h7
                have y5 := t3.no (o := .lst (vs.set j vu)) upd_same x5
                have s4 := s3.step t3
                have r4 : RpL X.K F3 ((xs.set j u).set j2 w) ((vs.set j vu).set j2 vw) := (((h4.mono t2.mono).set j (ru.mono t2.mono)).mono t3.mono).set j2 ((rw'.mono t2.mono).mono t3.mono)
                refine ⟨p, _, m, j2, rfl, r3.int, y1, by rw [List.length_set, h4.length]; exact hj2, ?_⟩
                exact ⟨rfl, h.nx g F3 _ σ _ (s4.putL hm hx3 h1 y5 h6 h7 r4) hk2⟩
              · exact hk2.elim
            · exact hk2.elim
          · exact hk.elim
        · exact hk.elim
      · exact hy.elim
    · exact q.elim, fun d d' ρ k q => by
    unfold dPut2 at q ⊢
    split at q
    · refine ha.mono ρ _ _ (fun y q => ?_) q
      split at q
      · refine hb.mono ρ _ _ (fun k' q => ?_) q
        split at q
        · split at q
          · refine hb2.mono _ _ _ (fun k2 q => ?_) q
            split at q
            · split at q
              · exact k.nx _ q
              · exact q.elim
            · exact q.elim
          · exact q.elim
        · exact q.elim
      · exact q.elim
    · exact q.elim⟩
/-- sorted(set(xs)), rows of ints of one length -/
def kSetR : List D → (List D → Prop) → Prop := fun ds Q => ∃ (ks : List (List Int)) (d : Nat) (B : Int), ds = [.list (ks.map rowD)] ∧ ks.length < 64 ∧ 1 ≤ d ∧ (∀ n ∈ ks, n.length = d ∧ TS.Bd B n) ∧ ∀ ms : List (List Int), ms.Nodup → (∀ n, n ∈ ms ↔ n ∈ ks) → ms.length < 64 → ms.Pairwise (fun n m => TS.code B n ≤ TS.code B m) → Q (ms.map rowD)
theorem rows_at {K : PySem.W.Frag} {F : Hp} : ∀ {ks : List (List Int)} {vs : List V}, RpL K F (ks.map rowD) vs → ∃ ps : List (Addr × List Int), vs = ps.map (fun p => V.ref p.1) ∧ ps.map (·.2) = ks ∧ ∀ p ∈ ps, FrT F p.1 (p.2.map V.int)
  | [], _, h => by have h : _ = [] := h; subst h; exact ⟨[], rfl, rfl, fun p z => (nomatch z)⟩
  | n :: ks, _, ⟨x, xs, e, h, t⟩ => by
    subst e
    obtain ⟨a, ys, rfl, h, r⟩ := h
    rw [RpL.ints_inv r] at h
    obtain ⟨ps, rfl, e2, hp⟩ := rows_at t
    exact ⟨(a, n) :: ps, rfl, by rw [List.map_cons, e2], fun p hp' => by
      rcases List.mem_cons.mp hp' with e | q
      · subst e; exact h
      · exact hp p q⟩
theorem rows_rp {K : PySem.W.Frag} {F : Hp} : ∀ {ps : List (Addr × List Int)}, (∀ p ∈ ps, FrT F p.1 (p.2.map V.int)) → RpL K F ((ps.map (·.2)).map rowD) (ps.map fun p => V.ref p.1)
  | [], _ => rfl
  | p :: ps, h => ⟨_, _, rfl, ⟨p.1, _, rfl, h p List.mem_cons_self, RpL.ints _⟩, rows_rp fun q hq => h q (List.mem_cons_of_mem _ hq)⟩
theorem fe_sortSetR (hc : X.calm = true) (hu : X.A.units + 64 < cLine) (hg : Gl X "sorted") (hm : X.mg "sorted" = none) (hg2 : Gl X "set") (hm2 : X.mg "set" = none) (ha : AR X e M [a] tA)
    (he2 : starEach [a] X.env = (false, eval a X.env) :: starEach [] X.env := by rfl)
    (he : starEach [.Call (.Name "set" p2) [a] [] pos2] X.env = (false, eval (.Call (.Name "set" p2) [a] [] pos2) X.env) :: starEach [] X.env := by rfl) :
    FE X e M (.Call (.Name "sorted" p) [.Call (.Name "set" p2) [a] [] pos2] [] pos) (fun ρ Q => tA ρ fun ds => kSetR ds Q) :=
  ⟨pe_imp (pe_callB (cr_sortedT hc) hg hm (by decide +kernel) (pa_cons (pe_callTy (cr_setOfT hc hu) hg2 hm2 (by decide +kernel) ha.pa (he := he2) (hpl := by rfl)) pa_nil he) (he := he) (hpl := by rfl)) fun σ H Q ⟨g, F, ρ, sr, q⟩ => by
      refine ⟨g, F, ρ, sr, ha.mono ρ _ _ (fun ds hd F1 H1 vs s rv => ?_) q⟩
      have bs := s.bs sr.bs
      obtain ⟨ks, d, B, rfl, h1, h2, h3, hd⟩ := hd
      obtain ⟨v, rfl, r⟩ := rv.one
      obtain ⟨p, vs, rfl, hp, m, r⟩ := r.lst bs
      obtain ⟨ps, rfl, e2, hps⟩ := rows_at r
      refine ⟨p, ps, rfl, .inl (.inl hp), fun p' hp' => bs.sub.sqT (hps p' hp'), by rw [← List.length_map (f := fun x : Addr × List Int => x.2), e2]; exact h1, fun l L hn hL1 hL2 => ?_⟩
      have b2 := bs.hide hn (SetTO X.prog X.w l L)
      have bs2 := b2.bs bs
      have st2 := s.trans b2
      refine ⟨l, L, d, B, rfl, upd_same, fun p' hp' => bs2.sub.sqT (hps p' (hL1 p' hp')), h2, fun p' hp' => h3 _ (by rw [← e2]; exact List.mem_map.mpr ⟨p', hL1 p' hp', rfl⟩), fun L' q' pm nd l6 so hq => ?_⟩
      have mem : ∀ n, n ∈ L'.map (·.2) ↔ n ∈ ks := fun n => by
        rw [← e2]
        constructor
        · intro h
          obtain ⟨p', hp', rfl⟩ := List.mem_map.mp h
          exact List.mem_map.mpr ⟨p', hL1 p' (pm.mem_iff.mp hp'), rfl⟩
        · intro h
          obtain ⟨p', hp', rfl⟩ := List.mem_map.mp h
          obtain ⟨p2, hp2, e⟩ := List.mem_map.mp (hL2 p' hp')
          exact List.mem_map.mpr ⟨p2, pm.mem_iff.mpr hp2, e⟩
      exact hd (L'.map (·.2)) nd mem (by rw [List.length_map]; exact l6) (List.pairwise_map.mpr so) F1 _ q' _ (st2.trans (bs2.hide hq _)) (st2.old hq) (st2.sub.none hq) upd_same (rows_rp fun p' hp' => hps p' (hL1 p' (pm.mem_iff.mp hp'))),
    fun ρ Q Q' f q => ha.mono ρ _ _ (fun ds ⟨ks, d, B, h1, h2, h3, h4, q⟩ => ⟨ks, d, B, h1, h2, h3, h4, fun ms a b c d => f _ (q ms a b c d)⟩) q⟩
end
end PP

set_option Elab.async false
set_option linter.all false
set_option maxRecDepth 100000
set_option maxHeartbeats 3000000
namespace PP
open PySem PySem.Spec PyProof.Rows L2
section
variable {X : Cx} {e : Ent} {M : List Md} {a : Expr} {xs : List Expr} {ta : DT} {pos p : Pos}
/-- (*a, ..) -/
def tStarD (ta : DT) (t : DA) : DA := fun ρ Q => ta ρ fun d => match d with | .tuple ds => t ρ fun es => Q (ds ++ es) | _ => False
theorem ae_star {tr : DA} (ha : DE X e M a ta) (hr : AE X e M xs tr) (hE : ∀ {te : TE} {t : TA}, PE X a te → PA X xs t → PA X (.Starred a p :: xs) (StX.tStar X.K te t) := by intro te t h1 h2; exact StX.pa_star h1 h2) : AE X e M (.Starred a p :: xs) (tStarD ta tr) :=
  ⟨pa_imp (hE ha.pe hr.pa) fun σ H Q ⟨g, F, ρ, sr, q⟩ => ⟨g, F, ρ, sr, ha.mono ρ _ _ (fun d hd F1 H1 v s1 r1 => by
    split at hd
    · obtain ⟨b, zs, rfl, hb, rb⟩ := r1
      exact ⟨b, zs, rfl, .inl (s1.sub.sqT hb), g, F1, ρ, sr.step s1, hr.mono ρ _ _ (fun ds hq F2 H2 vs s2 r2 => hq F2 H2 _ (s1.trans s2) ((rb.mono s2.mono).append r2)) hd⟩
    · exact hd.elim) q⟩, fun ρ Q Q' f q => ha.mono ρ _ _ (fun x q => by
    split at q
    · exact hr.mono ρ _ _ (fun xs q => f _ q) q
    · exact q.elim) q⟩
end
/-- a def that is never called -/
def kNo : KF := fun _ _ => False
theorem cl_no {P : Program} {w : World} {K : PySem.W.Frag} {mg : Str → Option Value} {base : Heap} {x : Str} {st : Stmt} {ps : List Str} {ms : List Md} {k : Nat} (h : Hd K mg x st ps) : Cl P w K mg base k x ps ms kNo := by
  obtain ⟨f, fd, F, b, m⟩ := h.ex
  refine ⟨⟨f, fd, m, F.kp, b, ⟨fun vs H Q E z => ?_, fun A outer s H ar us vs Q E _ _ _ _ _ z => ?_⟩⟩, fun ds Q Q' f q => q.elim⟩
  · obtain ⟨_, _, _, _, _, q⟩ := z; exact False.elim q
  · obtain ⟨_, _, _, _, _, q⟩ := z; exact False.elim q
end PP

set_option Elab.async false
set_option linter.all false
set_option maxRecDepth 100000
set_option maxHeartbeats 3000000
namespace PP
open PySem PySem.Spec PyProof.Rows L2
section
variable {prog : Program} {w : World} {A : Around} {E : Value → Shared → Prop} {s : Shared} {l : Addr} {vs : List Value}
theorem run_collect {Q : Value → Shared → Prop} (hl : IsTup s.heap l vs.toArray) (hz : vs.length ≤ sizeLine) (go : Q (.ref s.heap.objs.size) { s with heap := (s.heap.push { cls := Value.type "list", data := Data.seq ([] : List Value).toArray }).update s.heap.objs.size (Obj.mapSeq fun x => x ++ vs.toArray) }) :
    wpAny (model prog w) A (runValue (Code.builtin "proto.collect" { pos := [.ref l] })) Q E s := by
  obtain ⟨o, ho, hc, n, hd⟩ := hl
  refine wpAny_runValue (codeAny_builtin F.entry_proto_collect ?_)
  rw [Around.under_plainId F.plain_proto_collect]
  show wpAny _ _ (newList [] >>= _) _ _ _
  refine wpAny_bind (wpAny_newList ?_ (by simp))
  refine wpAny_pure ⟨Code.quiet_builtin _ (by decide +kernel), codeAny_builtin F.entry_list_iadd ?_⟩
  rw [Around.under_plainId F.plain_list_iadd]
  have ho' : (s.heap.push { cls := Value.type "list", data := Data.seq ([] : List Value).toArray }).get? l = some o := Heap.get?_push_of_some _ ho
  have hn : (s.heap.push { cls := Value.type "list", data := Data.seq ([] : List Value).toArray }).get? s.heap.objs.size = some { cls := Value.type "list", data := Data.seq ([] : List Value).toArray } := Heap.get?_push_size _ rfl
  show wpAny _ _ (Builtin.List.listExtendWith (.ref s.heap.objs.size) (.ref l) (.ref s.heap.objs.size)) _ _ _
  generalize hh : (s.heap.push { cls := Value.type "list", data := Data.seq ([] : List Value).toArray }) = h1 at *
  exact wpAny_extend_seq (prog := prog) (w := w) (A := A) (s := { s with heap := h1 }) (R := fun r s' => match r with | Except.ok (Flow.ret v) => Q v s' | Except.ok _ => False | Except.error e => E e s') (T := "tuple") s.heap.objs.size l (.ref s.heap.objs.size) 0 (.inr rfl) hn ho' hc hd go (by simpa using hz)
/-- the items of a tuple, by way of a new list -/
theorem collect_tup {Q : List Value → Shared → Prop} (hl : IsTup s.heap l vs.toArray) (hz : vs.length ≤ sizeLine) (go : Q vs { s with heap := (s.heap.push { cls := Value.type "list", data := Data.seq ([] : List Value).toArray }).update s.heap.objs.size (Obj.mapSeq fun x => x ++ vs.toArray) }) :
    wpAny (model prog w) A (collect (.ref l)) Q E s := by
  unfold PySem.collect
  refine wpAny_bind (run_collect hl hz ?_)
  have hn : (s.heap.push { cls := Value.type "list", data := Data.seq ([] : List Value).toArray }).get? s.heap.objs.size = some { cls := Value.type "list", data := Data.seq ([] : List Value).toArray } := Heap.get?_push_size _ rfl
  obtain ⟨k, hk⟩ : ∃ k, ((s.heap.push { cls := Value.type "list", data := Data.seq ([] : List Value).toArray }).update s.heap.objs.size (Obj.mapSeq fun x => x ++ vs.toArray)).get? s.heap.objs.size = some { cls := Value.type "list", data := Data.seq vs.toArray k } := by
    have h := Heap.get?_update_self (Obj.mapSeq fun x => x ++ vs.toArray) hn rfl
    exact ⟨if (([] : List Value).toArray ++ vs.toArray).size == ([] : List Value).toArray.size then 0 else 1, by rw [h]; simp [Obj.mapSeq]⟩
  refine wpAny_bind (wpAny_load hk ?_)
  exact wpAny_pure (by simpa using go)
/-- sorted of a tuple -/
theorem sorted_tup {ltv : Value → Value → Bool} {Q : Value → Shared → Prop} (sw : SrtO.Swo ltv) (hl : IsTup s.heap l vs.toArray) (hz : vs.length ≤ sizeLine)
    (so : 2 ≤ vs.length → ∀ (h₁ : Heap) (a : Addr), h₁.get? a = some (seqObj "list" vs.toArray 0) → (∀ (b : Addr) (o : Obj), s.heap.get? b = some o → b ≠ a ∧ h₁.get? b = some o) → SrtO.SortableO prog w A.in1.in1 { s with heap := h₁ } a vs ltv)
    (go : ∀ out : List Value, SrtO.Srtd ltv out → SrtO.Stb ltv out vs → Q (.ref (s.heap.objs.size + 1)) { s with heap := sortedAll s.heap vs out.toArray }) :
    wpAny (model prog w) A (call (.builtin "sorted") [.ref l]) Q E s := by
  refine wpAny_call (codeAny_of_tree (wpAny_pure ⟨Code.quiet_builtin _ (by decide +kernel), codeAny_builtin entry_sorted ?_⟩))
  rw [Around.under_plainId plain_sorted]
  show wpAny _ _ (collect (.ref l) >>= _) _ _ _
  refine wpAny_bind (collect_tup hl hz ?_)
  show wpAny _ _ (newList vs >>= _) _ _ _
  refine wpAny_bind (wpAny_newList ?_ hz)
  have h2s : ((s.heap.push { cls := Value.type "list", data := Data.seq ([] : List Value).toArray }).update s.heap.objs.size (Obj.mapSeq fun x => x ++ vs.toArray)).objs.size = s.heap.objs.size + 1 := by
    rw [Heap.size_update, Heap.size_push]
  have e3 : ∀ out, sortedAll s.heap vs out = sortedHeap (((s.heap.push { cls := Value.type "list", data := Data.seq ([] : List Value).toArray }).update s.heap.objs.size (Obj.mapSeq fun x => x ++ vs.toArray)).push { cls := Value.type "list", data := Data.seq vs.toArray }) (s.heap.objs.size + 1) vs out := fun out => rfl
  have old : ∀ (b : Addr) (o : Obj), s.heap.get? b = some o → ((s.heap.push { cls := Value.type "list", data := Data.seq ([] : List Value).toArray }).update s.heap.objs.size (Obj.mapSeq fun x => x ++ vs.toArray)).get? b = some o := fun b o h => by
    have lt := Heap.lt_size h
    rw [Heap.get?_update_ne _ _ _ _ (Nat.ne_of_lt lt)]
    exact Heap.get?_push_of_some _ h
  generalize ((s.heap.push { cls := Value.type "list", data := Data.seq ([] : List Value).toArray }).update s.heap.objs.size (Obj.mapSeq fun x => x ++ vs.toArray)) = h2 at *
  show wpAny _ _ (holding [.ref h2.objs.size] (call (.builtin "list.sort") [.ref h2.objs.size] []) >>= _) _ _ _
  rw [h2s]
  have hget : (h2.push { cls := Value.type "list", data := Data.seq vs.toArray }).get? (s.heap.objs.size + 1) = some (seqObj "list" vs.toArray 0) := by
    have := Heap.get?_push_size h2 (o := { cls := Value.type "list", data := Data.seq vs.toArray }) rfl
    rw [h2s] at this
    exact this
  refine wpAny_bind (wpAny_holding ?_)
  refine wpAny_call_entry PySem.F.slot_list_sort ⟨_, hget, rfl⟩ PySem.F.entry_list_sort ?_ (PySem.F.args_list_sort_1 _)
  have so2 : 2 ≤ vs.length → SrtO.SortableO prog w A.in1.in1 { s with heap := h2.push { cls := Value.type "list", data := Data.seq vs.toArray } } (s.heap.objs.size + 1) vs ltv := fun h => so h _ _ hget fun b o e => ⟨Nat.ne_of_lt (Nat.lt_succ_of_lt (Heap.lt_size e)), Heap.get?_push_of_some _ (old b o e)⟩
  refine SrtO.list_sort_ord (s := { s with heap := h2.push { cls := Value.type "list", data := Data.seq vs.toArray } }) sw hget hz so2 fun out a1 a2 => ?_
  have g := go out a1 a2
  rw [e3] at g
  exact ⟨_, rfl, wpAny_pure g⟩
end
end PP

set_option Elab.async false
set_option linter.all false
set_option maxRecDepth 100000
set_option maxHeartbeats 3000000
namespace PP
open PySem PySem.Spec PyProof.Rows L2
theorem ints_iv : ∀ {vs : List Value} {ns : List Int}, IntsAre vs ns → vs.map SrtO.iv = ns ∧ ∀ v ∈ vs, ∃ n t, v = Value.int n t
  | [], _, .nil => ⟨rfl, fun v h => nomatch h⟩
  | _ :: _, _, .cons n t h => by
    have ih := ints_iv h
    refine ⟨by rw [List.map_cons, ih.1]; rfl, fun v hv => ?_⟩
    rcases List.mem_cons.mp hv with e | hv
    · exact ⟨n, t, e⟩
    · exact ih.2 v hv
theorem ints_of : ∀ {vs : List Value}, (∀ v ∈ vs, ∃ n t, v = Value.int n t) → IntsAre vs (vs.map SrtO.iv)
  | [], _ => .nil
  | v :: vs, h => by
    obtain ⟨n, t, rfl⟩ := h v List.mem_cons_self
    exact .cons n t (ints_of fun u hu => h u (List.mem_cons_of_mem _ hu))
theorem iv_swo : SrtO.Swo SrtO.ltIv := ⟨fun x y h => by unfold SrtO.ltIv at *; simp at *; omega, fun x y z h1 h2 => by unfold SrtO.ltIv at *; simp at *; omega⟩
/-- sorted of a tuple of ints -/
def rSortedIT (K : PySem.W.Frag) : List V → Hp → VK → Prop := fun vs H Q => ∃ (a : Addr) (ns : List Int), vs = [V.ref a] ∧ SqT K H a (ns.map V.int) ∧ ∀ (ns' : List Int) (p : Addr), ns'.Perm ns → ns'.Pairwise (· ≤ ·) → H p = none → Q (.ref p) (upd H p (.lst (ns'.map V.int)))
theorem cr_sortedIT {X : Cx} : CallR X (.builtin "sorted") (rSortedIT X.K) := by
  intro pins s σ H vs us Q I r h
  obtain ⟨a, ns, rfl, hs, q⟩ := h
  obtain ⟨its, rv, hl, hz⟩ := I.tuple hs
  obtain ⟨u, rfl, ru⟩ := vals1 r
  obtain rfl : u = Value.ref a := ru
  have hi := rv.ints
  obtain ⟨i1, i2⟩ := ints_iv hi
  have lz : its.length ≤ sizeLine := by rw [← rv.length]; exact hz
  refine sorted_tup iv_swo hl lz (fun h2 h₁ a' ha kk => SrtO.ints_sortable hi h2) fun out h1 h2 => ?_
  have pm := h2.perm
  have o2 : ∀ v ∈ out, ∃ n t, v = Value.int n t := fun v hv => i2 v (pm.mem_iff.mp hv)
  obtain ⟨ep, he'⟩ := PyProof.Rows.sortedAll_at s.heap its out.toArray
  refine ⟨.ref _, upd H (s.heap.objs.size + 1) (.lst ((out.map SrtO.iv).map V.int)), I.laid (t' := s.toks) (fun _ _ => PyProof.Rows.sortedAll_old) (Nat.le_succ _) ⟨?_, out, ep, vals_ints (ints_of o2), he'⟩, rfl, q _ _ ?_ ?_ (I.hok.fresh (Nat.le_succ _))⟩
  · rw [List.length_map, List.length_map, pm.length_eq]
    exact lz
  · rw [← i1]
    exact pm.map _
  · refine List.pairwise_map.mpr (h1.imp fun {a b} z => ?_)
    unfold SrtO.ltIv at z
    simp at z
    exact z
section
variable {X : Cx} {e : Ent} {M : List Md} {a : Expr} {xs : List Expr} {tA : DA} {pos p : Pos}
def kSortIT : List D → (List D → Prop) → Prop := fun ds Q => ∃ ks : List Int, ds = [.tuple (ks.map PyData.int)] ∧ Q ((srtI ks).map PyData.int)
theorem fe_sortIT (hg : Gl X "sorted") (hm : X.mg "sorted" = none) (ha : AR X e M (a :: xs) tA) (he : starEach (a :: xs) X.env = (false, eval a X.env) :: starEach xs X.env := by rfl) (hpl : (backTo pos (starEach xs X.env)).any (·.1) = false := by rfl) :
    FE X e M (.Call (.Name "sorted" p) (a :: xs) [] pos) (fun ρ Q => tA ρ fun ds => kSortIT ds Q) :=
  ⟨pe_imp (pe_callB cr_sortedIT hg hm (by decide +kernel) ha.pa (he := he) (hpl := hpl)) fun σ H Q ⟨g, F, ρ, sr, q⟩ => ⟨g, F, ρ, sr, ha.mono ρ _ _ (fun ds hd F1 H1 vs s rv => by
    have bs := s.bs sr.bs
    obtain ⟨ks, rfl, hd⟩ := hd
    obtain ⟨v, rfl, r⟩ := rv.one
    obtain ⟨p, vs, rfl, hp, r⟩ := r.tup
    rw [RpL.ints_inv r] at hp
    exact ⟨p, ks, rfl, bs.sub.sqT hp, fun js l h1 h2 hn => by
      have e := srtI_eq h1 h2
      exact hd F1 _ l (js.map V.int) (s.trans (bs.hide hn _)) (s.old hn) (s.sub.none hn) upd_same (by rw [e]; exact RpL.ints _)⟩) q⟩,
    fun ρ Q Q' f q => ha.mono ρ _ _ (fun ds ⟨ks, h1, q⟩ => ⟨ks, h1, f _ q⟩) q⟩
end
end PP

set_option Elab.async false
set_option linter.all false
set_option maxRecDepth 100000
set_option maxHeartbeats 3000000
namespace PP
open PySem PySem.Spec PyProof.Rows L2
/-! ### deep data in a list -/
section
variable {K : PySem.W.Frag} {H : Hp}
mutual
theorem Rp.dp : ∀ (d : D) (v : V), Rp K H d v → d.hasDict = false → Dp K H v d
  | .none, _, h, _ => by have h : _ = V.non := h; subst h; exact .non
  | .bool b, _, h, _ => by have h : _ = V.bl b := h; subst h; exact .bl b
  | .int i, _, h, _ => by have h : _ = V.int i := h; subst h; exact .int i
  | .str x, _, h, _ => by have h : _ = V.str x := h; subst h; exact .str x
  | .list ds, _, ⟨a, xs, e1, h, q⟩, n => by
    subst e1
    exact .lst (.inl (.inl h)) (Rp.dpAll ds xs q (by simpa only [PyData.hasDict] using n))
  | .tuple ds, _, ⟨a, xs, e1, h, q⟩, n => by
    subst e1
    exact .tup h.sq (Rp.dpAll ds xs q (by simpa only [PyData.hasDict] using n))
  | .dict _, _, _, n => by simp [PyData.hasDict] at n
theorem Rp.dpAll : ∀ (ds : List D) (vs : List V), RpL K H ds vs → PyData.hasDictAll ds = false → DpAll K H vs ds
  | [], _, h, _ => by have h : _ = [] := h; subst h; exact .nil
  | d :: ds, _, ⟨x, xs, e1, h1, h2⟩, n => by
    subst e1
    have n' : d.hasDict = false ∧ PyData.hasDictAll ds = false := by simpa only [PyData.hasDictAll, Bool.or_eq_false_iff] using n
    exact .cons (Rp.dp d x h1 n'.1) (Rp.dpAll ds xs h2 n'.2)
end
end
def kInD (f : Bool → Bool) : K2 := fun x y Q => match y with
  | .list ys => (SeqAt.shaped x = true ∧ SeqAt.shaped (.list ys) = true) ∧ Q (.bool (f (ys.any fun z => PyData.eqv z x)))
  | _ => False
theorem kInD_mono {f} : Mono2 (kInD f) := fun x y Q Q' h q => by
  unfold kInD at q ⊢
  split at q
  · exact ⟨q.1, h _ q.2⟩
  · exact q.elim
section
variable {X : Cx} {e : Ent} {M : List Md} {a b : Expr} {ta tb : DT} {p pos tpos : Pos} {elts : List Expr} {kk : Nat}
theorem says_notInD : Says2 X (rNotInD X.K) (kInD not) := by
  intro g F H dx dy x y Qv q bs rx ry hk k
  unfold kInD at hk
  split at hk
  · obtain ⟨⟨s1, s2⟩, hk⟩ := hk
    exact ⟨dx, _, (rx.now bs).dp _ _ (shaped_noDict s1), (ry.now bs).dp _ _ (shaped_noDict s2), s1, s2, k _ F H _ hk bs.refl rfl⟩
  · exact hk.elim
theorem dc_notInD (hu : X.A.units + 65 < cLine) (ha : RE X e M a ta) (hb : RE X e M b tb) (hm : behindInMarks .NotIn b = false := by rfl) : DC X e M (.Compare a [.NotIn] [b] pos) (tTst (t2 (kInD not) ta tb)) := dc_cmp (op_notInD hu) says_notInD kInD_mono ha hb hm
end
end PP

set_option Elab.async false
set_option linter.all false
set_option maxRecDepth 100000
set_option maxHeartbeats 3000000
namespace PP
open PySem PySem.Spec PyProof.Rows L2
section
variable {X : Cx} {e : Ent} {M : List Md} {st : Stmt} {x : Expr} {t1 t2 : DT} {pos : Pos}
/-- a statement that is never come to -/
theorem ds_never : DS X e M st (fun _ _ => False) := ⟨⟨fun pins s σ H D I h => by
  obtain ⟨g, F, ρ, d, sr, q, h⟩ := h
  exact q.elim⟩, fun _ _ _ _ q => q.elim⟩
/-- two ways to read one word -/
theorem de_alt (h1 : DE X e M x t1) (h2 : DE X e M x t2) : DE X e M x (fun ρ Q => t1 ρ Q ∨ t2 ρ Q) :=
  ⟨⟨fun pins s σ H Q I h => by
    obtain ⟨g, F, ρ, sr, q⟩ := h
    rcases q with q | q
    · exact h1.pe.run pins s σ H Q I ⟨g, F, ρ, sr, q⟩
    · exact h2.pe.run pins s σ H Q I ⟨g, F, ρ, sr, q⟩⟩, fun ρ Q Q' f q => q.imp (h1.mono ρ Q Q' f) (h2.mono ρ Q Q' f)⟩
end
/-! ### dict comprehensions -/
def compDD (tg : DG) (tt : DB) (tk tv : DT) (Q : List (D × D) → Prop) (ρ : En) : List D → List (D × D) → Prop
  | [], acc => Q acc
  | x :: xs, acc => tg x ρ fun ρ' => tt ρ' fun b => if b = true then tk ρ' fun k => tv ρ' fun v => (match kOf k with | some c => compDD tg tt tk tv Q ρ xs (dPut acc c v) | none => False) else compDD tg tt tk tv Q ρ xs acc
theorem compDD_mono {tg : DG} {tt : DB} {tk tv : DT} (hg : MonoG tg) (ht : Mono tt) (hk : Mono tk) (hv : Mono tv) {Q Q' : List (D × D) → Prop} (f : ∀ x, Q x → Q' x) (ρ : En) : ∀ xs acc, compDD tg tt tk tv Q ρ xs acc → compDD tg tt tk tv Q' ρ xs acc
  | [], acc, q => f _ q
  | x :: xs, acc, q => hg _ _ _ _ (fun ρ' q => ht _ _ _ (fun b q => by
    cases b with
    | true => exact hk _ _ _ (fun y q => hv _ _ _ (fun z q => by
        split at q
        · exact compDD_mono hg ht hk hv f ρ xs _ q
        · exact q.elim) q) q
    | false => exact compDD_mono hg ht hk hv f ρ xs _ q) q) q
def tDcmp (tI : DA) (tg : DG) (tt : DB) (tk tv : DT) (vs : List Nat) : DT := fun ρ Q => tI ρ fun ds => ds.length ≤ sizeLine ∧ compDD tg tt tk tv (fun ks => Q (.dict ks)) (wipeD ρ vs) ds []
theorem dPut_le {ks : List (D × D)} {c : Key} {d : D} : (dPut ks c d).length ≤ ks.length + 1 := by
  unfold dPut
  split <;> simp
section
variable {X : Cx} {e : Ent} {M : List Md} {pos : Pos}
theorem dcomp_core {tI : DA} {tg : DG} {tt : DB} {tk tv : DT} {vs : List Nat} (mI : Mono tI) (mg : MonoG tg) (mt : Mono tt) (mk : Mono tk) (mv : Mono tv) : ∀ σ H Q, rdE X.K e M (tDcmp tI tg tt tk tv vs) σ H Q →
    tDc (rdI X.K e M tI) (rdTg X.K e M vs tg) (rdB X.K e M tt) (rdE X.K e M tk) (rdE X.K e M tv) vs σ H Q := fun σ H Q ⟨g, F, ρ, s, q⟩ => ⟨g, F, ρ, s, mI ρ _ _ (fun ds hd F0 H0 J t0 w D hD => by
  obtain ⟨hz, hd⟩ := hd
  have bs0 := t0.bs s.bs
  generalize hQ : (fun (ks : List (PyData × PyData)) => ∀ F' H' v, Stp g F H F' H' → Rp X.K F' (.dict ks) v → Q v H') = QQ at hd
  refine ⟨fun i m H1 => ∃ F1 acc ps, Stp g F0 H0 F1 H1 ∧ F1 D = none ∧ H1 D = some (.dK ps) ∧ RpK X.K F1 acc ps ∧ acc.length ≤ i ∧ i ≤ ds.length ∧ m = ds.length - i ∧
    compDD tg tt tk tv QQ (wipeD ρ vs) (ds.drop i) acc,
    ⟨_, F0, [], [], bs0.hide hD _, bs0.sub.none hD, upd_same, rfl, Nat.zero_le _, Nat.zero_le _, rfl, hd⟩, ?_⟩
  rintro i m H1 ⟨F1, acc, ps, t1, f1, h1, r1, la, hi1, rfl, q1⟩
  have t01 := t0.trans t1
  have s1 := (s.step t01).wipe vs
  have nD : ¬ g.mem D := fun z => g.dom _ bs0.ok D z hD
  obtain ⟨w1, w2⟩ := w g F1 H1 s1.bs t1.mono i
  by_cases hlt : i < ds.length
  · obtain ⟨go, yl⟩ := w1 hlt
    have ed : ds.drop i = ds[i] :: ds.drop (i + 1) := List.drop_eq_getElem_cons hlt
    rw [ed] at q1
    refine .inr ⟨go, fun H' => ∃ F2 acc ps, Stp g F0 H0 F2 H' ∧ F2 D = none ∧ H' D = some (.dK ps) ∧ RpK X.K F2 acc ps ∧ acc.length ≤ i + 1 ∧ compDD tg tt tk tv QQ (wipeD ρ vs) (ds.drop (i + 1)) acc, ?_, ?_⟩
    · rintro H' ⟨F2, acc, ps, a1, a2, a3, a4, a5, a6⟩
      exact ⟨_, by omega, F2, acc, ps, a1, a2, a3, a4, a5, hlt, rfl, a6⟩
    · intro x H2 hy
      obtain ⟨F2, t2, r2⟩ := yl x H2 hy
      refine ⟨g, F2, _, ds[i], s1.step t2, r2 _ (by simp [hlt]), mg _ _ _ _ (fun ρ' hq F3 H3 σ3 t3 s3 sm => ?_) q1⟩
      refine ⟨wipe_same sm, g, F3, ρ', s3, mt _ _ _ (fun b hb F4 H4 t4 => ?_) hq⟩
      have t24 := (t2.trans t3).trans t4
      have h4 : H4 D = some (.dK ps) := t24.keep _ _ h1 nD
      have f4 : F4 D = none := t24.no h1 f1
      cases b with
      | true =>
        refine L2.iteT ?_
        have hb : tk ρ' fun k => tv ρ' fun v => (match kOf k with | some c => compDD tg tt tk tv QQ (wipeD ρ vs) (ds.drop (i + 1)) (dPut acc c v) | none => False) := hb
        refine ⟨g, F4, ρ', s3.step t4, mk _ _ _ (fun y hy F5 H5 u t5 r5 => ?_) hb⟩
        refine ⟨g, F5, ρ', (s3.step t4).step t5, mv _ _ _ (fun z hz F6 H6 v t6 r6 => ?_) hy⟩
        split at hz
        · rename_i c hc
          have t26 := (t24.trans t5).trans t6
          have h6 : H6 D = some (.dK ps) := t26.keep _ _ h1 nD
          have f6 : F6 D = none := t26.no h1 f1
          have ll := r1.len
          have ek : u = kV c := (show RdR X.K g F5 H5 y u from .inl r5).key hc
          exact ⟨ps, c, ek, h6, by omega, F6, dPut acc c z, _, (t1.trans t26).poke hD f6 nD _, f6, upd_same, (RpK.mono t26.mono r1).put c r6, Nat.le_trans dPut_le (by omega), hz⟩
        · exact hz.elim
      | false =>
        refine L2.iteF ?_
        have hb : compDD tg tt tk tv QQ (wipeD ρ vs) (ds.drop (i + 1)) acc := hb
        exact ⟨F4, acc, ps, t1.trans t24, f4, h4, RpK.mono t24.mono r1, by omega, hb⟩
  · have e2 : i = ds.length := by omega
    subst e2
    rw [List.drop_length, ← hQ] at q1
    have fz : Stp g F H (upd F1 D (.dK ps)) H1 := t01.freeze (t0.old hD) f1 h1
    exact .inl ⟨w2 (Nat.le_refl _), q1 _ H1 (.ref D) fz ⟨D, ps, rfl, upd_same, RpK.mono (.new f1) r1⟩⟩) q⟩
theorem tDcmp_mono {tI : DA} {tg : DG} {tt : DB} {tk tv : DT} {vs : List Nat} (mI : Mono tI) (mg : MonoG tg) (mt : Mono tt) (mk : Mono tk) (mv : Mono tv) : Mono (tDcmp tI tg tt tk tv vs) := fun ρ Q Q' f q =>
  mI ρ _ _ (fun ds q => ⟨q.1, compDD_mono mg mt mk mv (fun ks => f _) _ _ _ q.2⟩) q
theorem de_dcomp {kx vx tg iter : Expr} {ifs : List Expr} {scope : Scope} {own : List (Str × Nat)} {tI : DA} {g : DG} {tt : DB} {tk tv : DT} (hc : X.calm = true) (hN : X.N.Nodup) (hi : DI X e M tg iter tI) (ok : BlkOk X.N X.env.scope scope own)
    (hg : ∀ (s : Shared) (H : Hp) (C : Addr) (cl : List (Str × Addr)) (fp : List Addr), GT (X.blk s H scope (compEnvC scope cl C X.env) fp) e M (own.map (·.2)) tg g)
    (ht : ∀ (s : Shared) (H : Hp) (C : Addr) (cl : List (Str × Addr)) (fp : List Addr), DTs (X.blk s H scope (compEnvC scope cl C X.env) fp) e M ifs tt)
    (hk : ∀ (s : Shared) (H : Hp) (C : Addr) (cl : List (Str × Addr)) (fp : List Addr), DE (X.blk s H scope (compEnvC scope cl C X.env) fp) e M kx tk)
    (hv : ∀ (s : Shared) (H : Hp) (C : Addr) (cl : List (Str × Addr)) (fp : List Addr), DE (X.blk s H scope (compEnvC scope cl C X.env) fp) e M vx tv) (hs : ∀ x, foldedSetIterable iter X.env x = pure x := by intro _; rfl) :
    DE X e M (.DictComp kx vx [⟨tg, iter, ifs, 0⟩] scope pos) (tDcmp tI g tt tk tv (own.map (·.2))) :=
  have mg := (hg ⟨X.s_0.heap, X.s_0.gens, X.s_0.drawn, X.s_0.toks, X.s_0.os⟩ X.H_0 0 [] []).mono
  have mt := (ht ⟨X.s_0.heap, X.s_0.gens, X.s_0.drawn, X.s_0.toks, X.s_0.os⟩ X.H_0 0 [] []).mono
  have mk := (hk ⟨X.s_0.heap, X.s_0.gens, X.s_0.drawn, X.s_0.toks, X.s_0.os⟩ X.H_0 0 [] []).mono
  have mv := (hv ⟨X.s_0.heap, X.s_0.gens, X.s_0.drawn, X.s_0.toks, X.s_0.os⟩ X.H_0 0 [] []).mono
  ⟨pe_imp (pe_dc hc hN hi.pi ok (fun s H C cl fp => (hg s H C cl fp).pg) (fun s H C cl fp => (ht s H C cl fp).pt) (fun s H C cl fp => (hk s H C cl fp).pe) (fun s H C cl fp => (hv s H C cl fp).pe) hs) (dcomp_core hi.mono mg mt mk mv), tDcmp_mono hi.mono mg mt mk mv⟩
/-- len of a dict -/
def kLenD : KC := fun ds Q => match ds with | [.dict ks] => Q (.int (ks.length : Nat)) | _ => False
theorem kLenD_mono : MonoC kLenD := fun ds Q Q' f q => by
  unfold kLenD at q ⊢
  split at q
  · exact f _ q
  · exact q.elim
theorem says_lenD : SaysC X (fun xs H Q => ∃ a kvs, xs = [V.ref a] ∧ H a = some (.dK kvs) ∧ Q (.int kvs.length) H) kLenD := by
  intro g F H ds vs Qv q bs rv hk k
  unfold kLenD at hk
  split at hk
  · obtain ⟨v, rfl, r⟩ := rv.one
    obtain ⟨p, ps, rfl, hp, m, rl⟩ := r.dct bs
    have := rl.len
    exact ⟨p, ps, rfl, hp, by rw [this]; exact k _ F H _ hk bs.refl rfl⟩
  · exact hk.elim
theorem de_lenD {a : Expr} {xs : List Expr} {tA : DA} {p : Pos} (hg : Gl X "len") (hm : X.mg "len" = none) (ha : AR X e M (a :: xs) tA) (he : starEach (a :: xs) X.env = (false, eval a X.env) :: starEach xs X.env := by rfl) (hpl : (backTo pos (starEach xs X.env)).any (·.1) = false := by rfl) :
    DE X e M (.Call (.Name "len" p) (a :: xs) [] pos) (tCl kLenD tA) := de_callB call_lenD says_lenD kLenD_mono hg hm PySem.boot_len ha (he := he) (hpl := hpl)
end
end PP

set_option Elab.async false
set_option linter.all false
set_option maxRecDepth 100000
set_option maxHeartbeats 1000000
namespace PP
open PySem PySem.Spec PyProof.Rows L2

/-! ### a list of lists of ours -/
section
variable {F H F' H' eH : Hp} {g : Rg} {R : List D → List V → Prop}
theorem InnerOk.len : ∀ {as : List Addr} {dss : List (List D)}, InnerOk F H g eH R as dss → dss.length = as.length
  | [], _, h => by have h : _ = [] := h; subst h; rfl
  | _ :: _, _, ⟨ds, dr, vs, e, _, _, _, _, _, r⟩ => by subst e; simp [InnerOk.len r]
theorem InnerOk.get : ∀ {as : List Addr} {dss : List (List D)} {i : Nat} {a : Addr}, InnerOk F H g eH R as dss → as[i]? = some a → ∃ ds vs, dss[i]? = some ds ∧ H a = some (.lst vs) ∧ R ds vs ∧ F a = none ∧ eH a = none ∧ ¬ g.mem a
  | [], _, _, _, _, q => by simp at q
  | _ :: _, _, 0, _, ⟨ds, dr, vs, e, h1, h2, h3, h4, h5, _⟩, q => by
    subst e; simp at q; subst q; exact ⟨ds, vs, rfl, h1, h2, h3, h4, h5⟩
  | _ :: _, _, i + 1, _, ⟨ds, dr, vs, e, _, _, _, _, _, r⟩, q => by
    subst e
    obtain ⟨ds', vs', h⟩ := InnerOk.get (i := i) r (by simpa using q)
    exact ⟨ds', vs', by simpa using h.1, h.2⟩
theorem InnerOk.there {as : List Addr} {dss : List (List D)} (h : InnerOk F H g eH R as dss) {a : Addr} (m : a ∈ as) : H a ≠ none := by
  obtain ⟨i, hi⟩ := List.getElem?_of_mem m
  obtain ⟨_, _, _, q, _⟩ := h.get hi
  rw [q]; simp
theorem InnerOk.snoc : ∀ {as : List Addr} {dss : List (List D)} {p : Addr} {ds : List D} {vs : List V}, InnerOk F H g eH R as dss → H p = some (.lst vs) → R ds vs → F p = none → eH p = none → ¬ g.mem p → InnerOk F H g eH R (as ++ [p]) (dss ++ [ds])
  | [], _, _, _, vs, h, h1, h2, h3, h4, h5 => by have h : _ = [] := h; subst h; exact ⟨_, [], vs, rfl, h1, h2, h3, h4, h5, rfl⟩
  | _ :: _, _, _, _, _, ⟨ds, dr, vs, e, a1, a2, a3, a4, a5, r⟩, h1, h2, h3, h4, h5 => by subst e; exact ⟨ds, dr ++ [_], vs, rfl, a1, a2, a3, a4, a5, InnerOk.snoc r h1 h2 h3 h4 h5⟩
theorem InnerOk.poke {p : Addr} {o : HO} : ∀ {as : List Addr} {dss : List (List D)}, InnerOk F H g eH R as dss → p ∉ as → InnerOk F (upd H p o) g eH R as dss
  | [], _, h, _ => h
  | a :: _, _, ⟨ds, dr, vs, e, a1, a2, a3, a4, a5, r⟩, n => ⟨ds, dr, vs, e, by rw [upd_ne fun z => n (by rw [z]; exact List.mem_cons_self)]; exact a1, a2, a3, a4, a5, InnerOk.poke r fun z => n (List.mem_cons_of_mem _ z)⟩
theorem InnerOk.set {p : Addr} {vs' : List V} {ds' : List D} : ∀ {as : List Addr} {dss : List (List D)} {j : Nat}, InnerOk F H g eH R as dss → as.Nodup → as[j]? = some p → R ds' vs' → InnerOk F (upd H p (.lst vs')) g eH R as (dss.set j ds')
  | [], _, _, _, _, q, _ => by simp at q
  | a :: as, _, 0, ⟨ds, dr, vs, e, a1, a2, a3, a4, a5, r⟩, n, q, h => by
    subst e; simp at q; subst q
    exact ⟨ds', dr, vs', rfl, upd_same, h, a3, a4, a5, r.poke (List.nodup_cons.mp n).1⟩
  | a :: as, _, j + 1, ⟨ds, dr, vs, e, a1, a2, a3, a4, a5, r⟩, n, q, h => by
    subst e
    have q' : as[j]? = some p := by simpa using q
    have ne : a ≠ p := fun z => (List.nodup_cons.mp n).1 (by rw [z]; exact List.mem_of_getElem? q')
    exact ⟨ds, dr.set j ds', vs, rfl, by rw [upd_ne ne]; exact a1, a2, a3, a4, a5, InnerOk.set r (List.nodup_cons.mp n).2 q' h⟩
end
theorem InnerOk.low {K : PySem.W.Frag} {F F' H eH : Hp} {g : Rg} (l : Le F F') : ∀ {as : List Addr} {dss : List (List D)}, InnerOk F H g eH (RpL K F) as dss → (∀ a ∈ as, F' a = none) → InnerOk F' H g eH (RpL K F') as dss
  | [], _, h, _ => h
  | a :: _, _, ⟨ds, dr, vs, e, a1, a2, a3, a4, a5, r⟩, n => ⟨ds, dr, vs, e, a1, a2.mono l, n a List.mem_cons_self, a4, a5, InnerOk.low l r fun b hb => n b (List.mem_cons_of_mem _ hb)⟩
/-- all of them are frozen -/
theorem InnerOk.freeze {K : PySem.W.Frag} {g : Rg} {F0 H0 : Hp} : ∀ {as : List Addr} {dss : List (List D)} {F H : Hp} {eH : Hp}, Stp g F0 H0 F H → (∀ a ∈ as, H0 a = none) → InnerOk F H g eH (RpL K F) as dss → as.Nodup →
    ∃ F', Stp g F0 H0 F' H ∧ Le F F' ∧ RpL K F' (dss.map PyData.list) (as.map V.ref) ∧ ∀ b, b ∉ as → F' b = F b
  | [], _, F, H, _, s, _, h, _ => by have h : _ = [] := h; subst h; exact ⟨F, s, .refl _, rfl, fun _ _ => rfl⟩
  | a :: as, _, F, H, _, s, n0, ⟨ds, dr, vs, e, a1, a2, a3, a4, a5, r⟩, n => by
    subst e
    have nd := List.nodup_cons.mp n
    have l1 : Le F (upd F a (.lst vs)) := .new a3
    have r' : InnerOk (upd F a (.lst vs)) H g _ (RpL K (upd F a (.lst vs))) as dr := r.low l1 fun b hb => by
      rw [upd_ne fun z => nd.1 (by rw [← z]; exact hb)]
      obtain ⟨i, hi⟩ := List.getElem?_of_mem hb
      obtain ⟨_, _, _, _, _, q, _⟩ := r.get hi
      exact q
    obtain ⟨F', s', l', rl, hb⟩ := InnerOk.freeze (s.freeze (n0 a List.mem_cons_self) a3 a1) (fun b hb => n0 b (List.mem_cons_of_mem _ hb)) r' nd.2
    refine ⟨F', s', l1.trans l', ⟨.ref a, as.map V.ref, rfl, ⟨a, vs, rfl, l' _ _ upd_same, (a2.mono l1).mono l'⟩, rl⟩, fun b nb => ?_⟩
    rw [hb b fun z => nb (List.mem_cons_of_mem _ z), upd_ne fun z => nb (by rw [z]; exact List.mem_cons_self)]

section
variable {K : PySem.W.Frag} {e : Ent} {M : List Md} {g : Rg} {F H : Hp} {σ : L2.St} {ρ : En}
theorem SR.ooAt (s : SR K e M g F H σ ρ) {i : Nat} {d : D} (h : gt ρ i = some d) (hm : md M i = .oo) :
    ∃ p as dss, σ[i]? = some (some (.ref p)) ∧ d = .list (dss.map PyData.list) ∧ H p = some (.lst (as.map V.ref)) ∧ InnerOk F H g e.H (RpL K F) as dss ∧ F p = none ∧ e.H p = none ∧ ¬ g.mem p ∧ (p :: as).Nodup := by
  obtain ⟨v, h1, h2⟩ := s.slot i d h
  rw [hm] at h2
  obtain ⟨p, as, dss, e1, r⟩ := h2
  subst e1
  exact ⟨p, as, dss, h1, r⟩
/-- one of the lists changes -/
theorem SR.pokeI (s : SR K e M g F H σ ρ) {i : Nat} {d d' : D} {a p : Addr} {o : HO} (hm : md M i = .oo) (h : gt ρ i = some d) (hσ : σ[i]? = some (some (.ref p))) (f : F a = none) (n : e.H a = none) (m : ¬ g.mem a)
    (ok : SlotOk K e g F (upd H a o) (md M i) d' (.ref p)) (fa : foot H (md M i) (.ref p) a) (fb : ∀ q, foot (upd H a o) (md M i) (.ref p) q → foot H (md M i) (.ref p) q) : SR K e M g F (upd H a o) σ (sv ρ i (some d')) := s.pokeG h hσ fa ok fb
end

def compL (tg : DG) (tt : DB) (te : DA) (Q : List (List D) → Prop) (ρ : En) : List D → List (List D) → Prop
  | [], acc => Q acc
  | x :: xs, acc => tg x ρ fun ρ' => tt ρ' fun b => if b = true then te ρ' fun y => compL tg tt te Q ρ xs (acc ++ [y]) else compL tg tt te Q ρ xs acc
theorem compL_mono {tg : DG} {tt : DB} {te : DA} (hg : MonoG tg) (ht : Mono tt) (he : Mono te) {Q Q' : List (List D) → Prop} (f : ∀ x, Q x → Q' x) (ρ : En) : ∀ xs acc, compL tg tt te Q ρ xs acc → compL tg tt te Q' ρ xs acc
  | [], acc, q => f _ q
  | x :: xs, acc, q => hg _ _ _ _ (fun ρ' q => ht _ _ _ (fun b q => by
    cases b with
    | true => exact he _ _ _ (fun y q => compL_mono hg ht he f ρ xs _ q) q
    | false => exact compL_mono hg ht he f ρ xs _ q) q) q
def rdL (K : PySem.W.Frag) (e : Ent) (M : List Md) (t : En → (List (List D) → Prop) → Prop) : TE := fun σ H Q => ∃ g F ρ, SR K e M g F H σ ρ ∧ t ρ fun dss => ∀ F' H' p as, Stp g F H F' H' → H p = none → F' p = none → H' p = some (.lst (as.map V.ref)) →
  InnerOk F' H' g e.H (RpL K F') as dss → (p :: as).Nodup → (∀ a ∈ as, H a = none) → Q (.ref p) H'
def tCompL (tI : DA) (tg : DG) (tt : DB) (te : DA) (vs : List Nat) : En → (List (List D) → Prop) → Prop := fun ρ Q => tI ρ fun ds => ds.length ≤ sizeLine ∧ compL tg tt te Q (wipeD ρ vs) ds []
section
variable {X : Cx} {e : Ent} {M : List Md} {pos : Pos}
theorem compL_core {tI : DA} {tg : DG} {tt : DB} {te : DA} {vs : List Nat} (mI : Mono tI) (mg : MonoG tg) (mt : Mono tt) (me : Mono te) : ∀ σ H Q, rdL X.K e M (tCompL tI tg tt te vs) σ H Q →
    tLc (rdI X.K e M tI) (rdTg X.K e M vs tg) (rdB X.K e M tt) (rdF X.K e M te) vs σ H Q := fun σ H Q ⟨g, F, ρ, s, q⟩ => ⟨g, F, ρ, s, mI ρ _ _ (fun ds hd F0 H0 J t0 w D hD => by
  obtain ⟨hz, hd⟩ := hd
  have bs0 := t0.bs s.bs
  generalize hQ : (fun (xs : List (List PyData)) => ∀ F' H' p as, Stp g F H F' H' → H p = none → F' p = none → H' p = some (.lst (as.map V.ref)) → InnerOk F' H' g e.H (RpL X.K F') as xs → (p :: as).Nodup → (∀ a ∈ as, H a = none) → Q (.ref p) H') = QQ at hd
  refine ⟨fun i m H1 => ∃ F1 acc as, Stp g F0 H0 F1 H1 ∧ F1 D = none ∧ H1 D = some (.lst (as.map V.ref)) ∧ InnerOk F1 H1 g e.H (RpL X.K F1) as acc ∧ (D :: as).Nodup ∧ (∀ a ∈ as, H a = none) ∧ acc.length ≤ i ∧ i ≤ ds.length ∧ m = ds.length - i ∧
    compL tg tt te QQ (wipeD ρ vs) (ds.drop i) acc,
    ⟨_, F0, [], [], bs0.hide hD _, bs0.sub.none hD, upd_same, rfl, by simp, (fun a ha => nomatch ha), Nat.zero_le _, Nat.zero_le _, rfl, hd⟩, ?_⟩
  rintro i m H1 ⟨F1, acc, as, t1, f1, h1, r1, nd1, fr1, la, hi1, rfl, q1⟩
  have t01 := t0.trans t1
  have s0 := s.step t01
  have s1 := s0.wipe vs
  have nD : ¬ g.mem D := fun z => g.dom _ bs0.ok D z hD
  obtain ⟨w1, w2⟩ := w g F1 H1 s1.bs t1.mono i
  by_cases hlt : i < ds.length
  · obtain ⟨go, yl⟩ := w1 hlt
    have ed : ds.drop i = ds[i] :: ds.drop (i + 1) := List.drop_eq_getElem_cons hlt
    rw [ed] at q1
    refine .inr ⟨go, fun H' => ∃ F2 acc as, Stp g F0 H0 F2 H' ∧ F2 D = none ∧ H' D = some (.lst (as.map V.ref)) ∧ InnerOk F2 H' g e.H (RpL X.K F2) as acc ∧ (D :: as).Nodup ∧ (∀ a ∈ as, H a = none) ∧ acc.length ≤ i + 1 ∧ compL tg tt te QQ (wipeD ρ vs) (ds.drop (i + 1)) acc, ?_, ?_⟩
    · rintro H' ⟨F2, acc, as, a1, a2, a3, a4, a4', a4f, a5, a6⟩
      exact ⟨_, by omega, F2, acc, as, a1, a2, a3, a4, a4', a4f, a5, hlt, rfl, a6⟩
    · intro x H2 hy
      obtain ⟨F2, t2, r2⟩ := yl x H2 hy
      refine ⟨g, F2, _, ds[i], s1.step t2, r2 _ (by simp [hlt]), mg _ _ _ _ (fun ρ' hq F3 H3 σ3 t3 s3 sm => ?_) q1⟩
      refine ⟨wipe_same sm, g, F3, ρ', s3, mt _ _ _ (fun b hb F4 H4 t4 => ?_) hq⟩
      have t24 := (t2.trans t3).trans t4
      have h4 : H4 D = some (.lst (as.map V.ref)) := t24.keep _ _ h1 nD
      have f4 : F4 D = none := t24.no h1 f1
      have r4 := r1.step t24
      cases b with
      | true =>
        refine L2.iteT ?_
        have hb : te ρ' fun y => compL tg tt te QQ (wipeD ρ vs) (ds.drop (i + 1)) (acc ++ [y]) := hb
        refine ⟨g, F4, ρ', s3.step t4, me _ _ _ (fun y hy F5 H5 p vs5 t5 p0 p1 p2 p3 => ?_) hb⟩
        have t25 := t24.trans t5
        have h5 : H5 D = some (.lst (as.map V.ref)) := t25.keep _ _ h1 nD
        have f5 : F5 D = none := t25.no h1 f1
        have ll := r1.len
        have pe : e.H p = none := (s3.step t4).old p0
        have pm : ¬ g.mem p := (s3.step t4).nmem p0
        have pD : D ≠ p := ne_of_none h4 p0
        have pas : p ∉ as := fun z => r4.there z p0
        have ndD := List.nodup_cons.mp nd1
        refine ⟨as.map V.ref, h5, by rw [List.length_map]; omega, F5, acc ++ [y], as ++ [p], (t1.trans t25).poke hD f5 nD _, f5, by rw [upd_same]; simp, (((r1.step t25).snoc p2 p3 p1 pe pm).poke ?_), ?_, (fun a ha => by
          rcases List.mem_append.mp ha with ha | ha
          · exact fr1 a ha
          · rw [List.mem_singleton.mp ha]; exact (t01.trans t24).old p0), by simp; omega, hy⟩
        · intro z
          rcases List.mem_append.mp z with z | z
          · exact ndD.1 z
          · exact pD (List.mem_singleton.mp z)
        · rw [← List.cons_append, List.nodup_append]
          refine ⟨nd1, by simp, fun a ha b hb => ?_⟩
          rw [List.mem_singleton] at hb
          subst hb
          rcases List.mem_cons.mp ha with z | z
          · rw [z]; exact pD
          · exact fun q => pas (by rw [← q]; exact z)
      | false =>
        refine L2.iteF ?_
        have hb : compL tg tt te QQ (wipeD ρ vs) (ds.drop (i + 1)) acc := hb
        exact ⟨F4, acc, as, t1.trans t24, f4, h4, r4, nd1, fr1, by omega, hb⟩
  · have e2 : i = ds.length := by omega
    subst e2
    rw [List.drop_length, ← hQ] at q1
    exact .inl ⟨w2 (Nat.le_refl _), q1 F1 H1 D as t01 (t0.old hD) f1 h1 r1 nd1 fr1⟩) q⟩
theorem tCompL_mono {tI : DA} {tg : DG} {tt : DB} {te : DA} {vs : List Nat} (mI : Mono tI) (mg : MonoG tg) (mt : Mono tt) (me : Mono te) : Mono (tCompL tI tg tt te vs) := fun ρ Q Q' f q =>
  mI ρ _ _ (fun ds q => ⟨q.1, compL_mono mg mt me f _ _ _ q.2⟩) q
/-- name = [a new list for ..] -/
theorem ds_lol {i : Nat} {y : Str} {py spos : Pos} {elt tg iter : Expr} {ifs : List Expr} {scope : Scope} {own : List (Str × Nat)} {tI : DA} {g : DG} {tt : DB} {te : DA} (hc : X.calm = true) (hN : X.N.Nodup) (hy : X.N[i]? = some y) (hyl : X.env.scope.names.lookup y = some .local)
    (hsw : swapsWith (.ListComp elt [⟨tg, iter, ifs, 0⟩] scope pos) (some (.Name y py)) spos.line X.env = pure true) (hi : DI X e M tg iter tI) (ok : BlkOk X.N X.env.scope scope own)
    (hg : ∀ (s : Shared) (H : Hp) (C : Addr) (cl : List (Str × Addr)) (fp : List Addr), GT (X.blk s H scope (compEnvC scope cl C X.env) fp) e M (own.map (·.2)) tg g)
    (ht : ∀ (s : Shared) (H : Hp) (C : Addr) (cl : List (Str × Addr)) (fp : List Addr), DTs (X.blk s H scope (compEnvC scope cl C X.env) fp) e M ifs tt)
    (he : ∀ (s : Shared) (H : Hp) (C : Addr) (cl : List (Str × Addr)) (fp : List Addr), FE (X.blk s H scope (compEnvC scope cl C X.env) fp) e M elt te) (hm : md M i = .oo := by rfl) (hs : ∀ x, foldedSetIterable iter X.env x = pure x := by intro _; rfl) :
    DS X e M (.Assign [.Name y py] (.ListComp elt [⟨tg, iter, ifs, 0⟩] scope pos) spos) (fun d ρ => tCompL tI g tt te (own.map (·.2)) ρ fun xs => d.nx (sv ρ i (some (.list (xs.map PyData.list))))) :=
  have mg := (hg ⟨X.s_0.heap, X.s_0.gens, X.s_0.drawn, X.s_0.toks, X.s_0.os⟩ X.H_0 0 [] []).mono
  have mt := (ht ⟨X.s_0.heap, X.s_0.gens, X.s_0.drawn, X.s_0.toks, X.s_0.os⟩ X.H_0 0 [] []).mono
  have me := (he ⟨X.s_0.heap, X.s_0.gens, X.s_0.drawn, X.s_0.toks, X.s_0.os⟩ X.H_0 0 [] []).mono
  ⟨ps_imp (ps_setLc hc hN hy hyl hsw hi.pi ok (fun s H C cl fp => (hg s H C cl fp).pg) (fun s H C cl fp => (ht s H C cl fp).pt) (fun s H C cl fp => (he s H C cl fp).pe) hs) fun E σ H ⟨gg, F, ρ, d, s, q, h⟩ =>
    compL_core hi.mono mg mt me σ H _ ⟨gg, F, ρ, s, tCompL_mono hi.mono mg mt me ρ _ _ (fun xs hx F' H' p as t hp hf hh r nd hfr =>
      h.nx gg F' H' _ _ (s.setmF t (fun q hq => by
        rw [hm] at hq
        obtain ⟨a, ea, hq⟩ := hq
        cases ea
        rcases hq with hq | ⟨vs, hv, hq⟩
        · rw [hq]; exact hp
        · rw [hh] at hv
          cases hv
          obtain ⟨b, hb, eb⟩ := List.mem_map.mp hq
          cases eb
          exact hfr _ hb) (by rw [hm]; exact ⟨p, as, xs, rfl, rfl, hh, r, hf, s.old hp, s.nmem hp, nd⟩)) hx) q⟩,
    fun d d' ρ j q => tCompL_mono hi.mono mg mt me ρ _ _ (fun _ q => j.nx _ q) q⟩
end
section
variable {X : Cx} {e : Ent} {M : List Md} {a b : Expr} {ta tb : DT} {pos p1 p2 p3 : Pos}
/-- x[k], one of the lists -/
def tOoI (i : Nat) (tb : DT) : DT := fun ρ Q => match gt ρ i with | some (.list xs) => tb ρ fun k => ∃ (j : Nat) (ys : List D), k = .int (j : Int) ∧ xs[j]? = some (.list ys) ∧ Q (.list ys) | _ => False
theorem tOoI_mono {i : Nat} (m : Mono tb) : Mono (tOoI i tb) := fun ρ Q Q' f q => by
  unfold tOoI at q ⊢
  split at q
  · exact m ρ _ _ (fun k ⟨j, ys, h1, h2, h3⟩ => ⟨j, ys, h1, h2, f _ h3⟩) q
  · exact q.elim
theorem oo_at {dss : List (List D)} {j : Nat} {ys : List D} (h : (dss.map PyData.list)[j]? = some (.list ys)) : dss[j]? = some ys := by
  rw [List.getElem?_map] at h
  cases q : dss[j]? with
  | none => rw [q] at h; cases h
  | some z => rw [q] at h; cases h; rfl
theorem ooi (i : Nat) {y : Str} (hb : RE X e M b tb) (hp : PlainIx b) (hN : X.N[i]? = some y := by rfl) (hv : Vis X.env.scope y := by first | exact Or.inl rfl | exact Or.inr (Or.inl rfl) | exact Or.inr (Or.inr rfl)) (hm : md M i = .oo := by rfl)
    (hd : (y == ("__debug__" : Str)) = false := by decide) (hcd : (y == ("__classdict__" : Str)) = false := by decide) :
    RE X e M (.Subscript (.Name y p1) b pos) (tOoI i tb) :=
  ⟨pe_imp (pe_ix ix_list (pe_var hN hv hd hcd) hb.pe hp) fun σ H Q ⟨g, F, ρ, s, q⟩ => by
    have q : tOoI i tb ρ _ := q
    unfold tOoI at q
    split at q
    · rename_i xs hx
      obtain ⟨p, as, dss, h1, e2, h3, h4, h5, h6, h7, h8⟩ := s.ooAt hx hm
      cases e2
      refine ⟨_, h1, g, F, ρ, s, hb.mono ρ _ _ (fun k hk F1 H1 u t r => ?_) q⟩
      obtain ⟨j, ys, rfl, hj, hq⟩ := hk
      have hj := oo_at hj
      have hl := h4.len
      have jl : j < as.length := by rw [← hl]; exact (List.getElem?_eq_some_iff.mp hj).1
      have ha : as[j]? = some as[j] := List.getElem?_eq_getElem jl
      obtain ⟨ds', vs', g1, g2, g3, g4, g5, g6⟩ := h4.get ha
      rw [hj] at g1; cases g1
      refine ⟨p, _, (j : Int), .ref as[j], rfl, r.int, .inl (.inl (t.keep _ _ h3 h7)), atI_nat (by rw [List.getElem?_map, ha]; rfl), ?_⟩
      exact hq F1 H1 _ t (.inr (.inl ⟨as[j], vs', ys, rfl, rfl, t.keep _ _ g2 g6, g6, g3.mono t.mono⟩))
    · exact q.elim, tOoI_mono hb.mono⟩
/-- x[k].append(e) -/
def tAppAt (i : Nat) (tb te : DT) : DTS := fun d ρ => match gt ρ i with | some (.list xs) => tb ρ fun k => ∃ (j : Nat) (ys : List D), k = .int (j : Int) ∧ xs[j]? = some (.list ys) ∧ te ρ fun y => ys.length < sizeLine ∧ d.nx (sv ρ i (some (.list (xs.set j (.list (ys ++ [y])))))) | _ => False
theorem dappAt (i : Nat) {y : Str} {spos : Pos} (hb : RE X e M b tb) (hp : PlainIx b) (ha : DE X e M a ta) (hN : X.N[i]? = some y := by rfl) (hv : Vis X.env.scope y := by first | exact Or.inl rfl | exact Or.inr (Or.inl rfl) | exact Or.inr (Or.inr rfl)) (hm : md M i = .oo := by rfl)
    (hd : (y == ("__debug__" : Str)) = false := by decide) (hcd : (y == ("__classdict__" : Str)) = false := by decide)
    (h1 : starEach [a] X.env = (false, eval a X.env) :: starEach [] X.env := by rfl)
    (hE : ∀ {to : TE} {t : TA}, PE X (.Subscript (.Name y p1) b p2) to → PA X [a] t → PE X (.Call (.Attribute (.Subscript (.Name y p1) b p2) "append" p3) [a] [] pos) (tBM X.K "list" rAppend to t) := by
      intro to t h h'; exact pe_bm PySem.F.plainAttrs_list PySem.F.slot_list_append PySem.F.type_list_append mt_append h h')
    (hs : swapsWith (.Call (.Attribute (.Subscript (.Name y p1) b p2) "append" p3) [a] [] pos) none spos.line X.env = pure false := by rfl) :
    DS X e M (.Expr (.Call (.Attribute (.Subscript (.Name y p1) b p2) "append" p3) [a] [] pos) spos) (tAppAt i tb ta) :=
  ⟨ps_imp (ps_expr (hE (pe_ix ix_list (pe_var hN hv hd hcd) hb.pe hp) (pa_cons ha.pe pa_nil h1)) hs) fun E σ H ⟨g, F, ρ, d, s, q, h⟩ => by
    have q : tAppAt i tb ta d ρ := q
    unfold tAppAt at q
    split at q
    · rename_i xs hx
      obtain ⟨p, as, dss, h1, e2, h3, h4, h5, h6, h7, h8⟩ := s.ooAt hx hm
      cases e2
      refine ⟨_, h1, g, F, ρ, s, hb.mono ρ _ _ (fun k hk F1 H1 u t r => ?_) q⟩
      obtain ⟨j, ys, rfl, hj, hq⟩ := hk
      have hj := oo_at hj
      have hl := h4.len
      have jl : j < as.length := by rw [← hl]; exact (List.getElem?_eq_some_iff.mp hj).1
      have ha' : as[j]? = some as[j] := List.getElem?_eq_getElem jl
      obtain ⟨ds', vs', g1, g2, g3, g4, g5, g6⟩ := h4.get ha'
      rw [hj] at g1; cases g1
      refine ⟨p, _, (j : Int), .ref as[j], rfl, r.int, .inl (.inl (t.keep _ _ h3 h7)), atI_nat (by rw [List.getElem?_map, ha']; rfl), .inl ⟨rfl, vs', .inl (.inl (t.keep _ _ g2 g6))⟩, g, F1, ρ, s.step t, ha.mono ρ _ _ (fun z hz F2 H2 v t2 r2 => ?_) hq⟩
      have t12 := t.trans t2
      have s2 := s.step t12
      have o2 := h4.step t12
      have nd := List.nodup_cons.mp h8
      have pa : p ≠ as[j] := fun z => nd.1 (by rw [z]; exact List.getElem_mem jl)
      have key := o2.set nd.2 ha' ((g3.mono t12.mono).append (.cons r2 .nil))
      have fa : F2 as[j] = none := t12.no g2 g4
      have h3' := t12.keep _ _ h3 h7
      refine ⟨as[j], vs', v, rfl, rfl, t12.keep _ _ g2 g6, by rw [g3.length]; exact hz.1, h.nx g F2 _ σ _ (s2.pokeI hm hx h1 fa g5 g6 ?_ (by rw [hm]; exact ⟨p, rfl, .inr ⟨_, h3', List.mem_map.mpr ⟨_, List.getElem_mem jl, rfl⟩⟩⟩) (fun q hq => by
        rw [hm] at hq ⊢
        obtain ⟨b, eb, hq⟩ := hq
        cases eb
        refine ⟨p, rfl, ?_⟩
        rcases hq with hq | ⟨ws, hw, hq⟩
        · exact .inl hq
        · rw [upd_ne pa] at hw
          exact .inr ⟨ws, hw, hq⟩)) hz.2⟩
      rw [hm]
      refine ⟨p, as, dss.set j (ys ++ [z]), rfl, by rw [List.map_set], by rw [upd_ne pa]; exact t12.keep _ _ h3 h7, key, t12.no h3 h5, h6, h7, h8⟩
    · exact q.elim, fun d d' ρ k q => by
    unfold tAppAt at q ⊢
    split at q
    · exact hb.mono ρ _ _ (fun u ⟨j, ys, h1, h2, h3⟩ => ⟨j, ys, h1, h2, ha.mono ρ _ _ (fun z q => ⟨q.1, k.nx _ q.2⟩) h3⟩) q
    · exact q.elim⟩
/-- return of a list of lists of ours -/
theorem droo (i : Nat) {y : Str} (hN : X.N[i]? = some y := by rfl) (hv : Vis X.env.scope y := by first | exact Or.inl rfl | exact Or.inr (Or.inl rfl) | exact Or.inr (Or.inr rfl)) (hm : md M i = .oo := by rfl) (hd : (y == ("__debug__" : Str)) = false := by decide) (hcd : (y == ("__classdict__" : Str)) = false := by decide) :
    DS X e M (.Return (some (.Name y p2)) pos) (fun d ρ => tV i ρ d.rt) :=
  ⟨ps_imp (ps_ret (pe_var hN hv hd hcd)) fun E σ H ⟨g, F, ρ, d, s, q, h⟩ => by
    have q : tV i ρ d.rt := q
    unfold tV at q
    split at q
    · rename_i x hx
      obtain ⟨p, as, dss, h1, e2, h3, h4, h5, h6, h7, h8⟩ := s.ooAt hx hm
      cases e2
      have nd := List.nodup_cons.mp h8
      have n0 : ∀ a ∈ as, e.H a = none := fun a ha => by
        obtain ⟨j, hj⟩ := List.getElem?_of_mem ha
        obtain ⟨_, _, _, _, _, _, g5, _⟩ := h4.get hj
        exact g5
      have st0 := s.stp
      have h4' : InnerOk F H e.g e.H (RpL X.K F) as dss := by
        have conv : ∀ (as : List Addr) (dss : List (List D)), InnerOk F H g e.H (RpL X.K F) as dss → InnerOk F H e.g e.H (RpL X.K F) as dss := fun as => by
          induction as with
          | nil => exact fun _ q => q
          | cons a as ih =>
            rintro _ ⟨ds, dr, vs, w1, w2, w3, w4, w5, w6, w7⟩
            refine ⟨ds, dr, vs, w1, w2, w3, w4, w5, ?_, ih _ w7⟩
            rcases s.grel with z | ⟨z, _⟩
            · rw [← z]; exact w6
            · rw [z]; exact fun z => z
        exact conv _ _ h4
      obtain ⟨F', sf, l, rl, hb⟩ := h4'.freeze st0 n0 nd.2
      have fp : F' p = none := by rw [hb p nd.1]; exact h5
      exact ⟨_, h1, h.rt (upd F' p (.lst (as.map V.ref))) H (.list (dss.map PyData.list)) (.ref p) (sf.freeze h6 fp h3) (show Rp X.K (upd F' p (.lst (as.map V.ref))) (.list (dss.map PyData.list)) (.ref p) from ⟨p, _, rfl, upd_same, rl.mono (.new fp)⟩) q⟩
    · exact q.elim, fun d d' ρ j q => tV_mono i ρ _ _ j.rt q⟩
end
end PP

set_option Elab.async false
set_option linter.all false
set_option maxRecDepth 100000
set_option maxHeartbeats 1000000
namespace PP
open PySem PySem.Spec PyProof.Rows L2
section
variable {X : Cx} {e : Ent} {M : List Md} {a b : Expr} {ta tb : DT} {pos p1 p2 : Pos}
/-- x op= e, ints -/
def tAugD (f : Int → Int → Int) (i : Nat) (ta : DT) : DTS := fun d ρ => match gt ρ i with | some (.int x) => ta ρ fun y => (match y with | .int y => d.nx (sv ρ i (some (.int (f x y)))) | _ => False) | _ => False
theorem daug {op : Operator} {f : Int → Int → Int} (ho : PIp X op (ipI f)) (i : Nat) {y : Str} (hNd : X.N.Nodup) (ha : RE X e M a ta) (hi : X.N[i]? = some y := by rfl) (hx : Loc X.env.scope y := by first | exact .inl rfl | exact .inr rfl) (hm : md M i = .val := by rfl)
    (hf : X.fn y = true ∨ X.env.scope.names.lookup y = some .local := by first | exact .inl rfl | exact .inr rfl | assumption) : DS X e M (.AugAssign (.Name y p1) op a pos) (tAugD f i ta) :=
  ⟨ps_imp (ps_aug hNd hi hx ha.pe ho hf) fun E σ H ⟨g, F, ρ, d, s, q, h⟩ => by
    unfold tAugD at q
    split at q
    · rename_i x hx
      obtain ⟨v, h1, h2⟩ := s.slot i _ hx
      rw [hm] at h2
      have h2 : v = .int x := h2
      subst h2
      refine ⟨_, h1, g, F, ρ, s, ha.mono ρ _ _ (fun y hy F' H' v t r => ?_) q⟩
      split at hy
      · exact ⟨x, _, rfl, r.int, h.nx g F' H' _ _ ((s.step t).setv hm (show Rp X.K F' (.int (f x _)) (.int (f x _)) from rfl)) hy⟩
      · exact hy.elim
    · exact q.elim, fun d d' ρ j q => by
    unfold tAugD at q ⊢
    split at q
    · refine ha.mono ρ _ _ (fun y q => ?_) q
      split at q
      · exact j.nx _ q
      · exact q.elim
    · exact q.elim⟩
def rGetN (K : PySem.W.Frag) : V → V → Hp → VK → Prop := fun x y H Q => ∃ p xs, ∃ (j : Nat) (v : V), x = .ref p ∧ y = .int (j : Int) ∧ SqL K H p xs ∧ xs[j]? = some v ∧ Q v H
theorem pget_list {X : Cx} : PGet X (rGetN X.K) := fun pins s σ H o i ov iv Q I ro ri h => by
  obtain ⟨p, xs, j, v, rfl, rfl, hq, hj, q⟩ := h
  cases ro
  obtain ⟨t, rfl⟩ := ri
  obtain ⟨its, r, pl, hz⟩ := I.list hq
  obtain ⟨w, ew, rw'⟩ := r.get hj
  have hl := r.length
  have hn := line63
  have jl : j < xs.length := (List.getElem?_eq_some_iff.mp hj).1
  exact wpAny_getItem_list pl.isList (by omega) (by omega) (by rw [Int.toNat_natCast]; simpa using ew) ⟨v, H, I, rw', q⟩
/-- x[k] op= e, ints -/
def tAugP (f : Int → Int → Int) (i : Nat) (tk te : DT) : DTS := fun d ρ => match gt ρ i with | some (.list xs) => tk ρ fun k => ∃ (j : Nat) (x : Int), k = .int (j : Int) ∧ xs[j]? = some (.int x) ∧ te ρ fun y => (match y with | .int y => d.nx (sv ρ i (some (.list (xs.set j (.int (f x y)))))) | _ => False) | _ => False
theorem daugP {op : Operator} {f : Int → Int → Int} (ho : PIp X op (ipI f)) (i : Nat) {y : Str} (hb : RE X e M b tb) (ha : RE X e M a ta) (hN : X.N[i]? = some y := by rfl) (hv : Vis X.env.scope y := by first | exact Or.inl rfl | exact Or.inr (Or.inl rfl) | exact Or.inr (Or.inr rfl)) (hm : md M i = .own := by rfl) (hd : (y == ("__debug__" : Str)) = false := by decide) (hcd : (y == ("__classdict__" : Str)) = false := by decide)
    (hst : ∀ ov iv new, augStore b ov iv new = (do holding [new, ov, iv] (setItem ov iv new); release [new, ov, iv] []; pure .next) := by intros; rfl) : DS X e M (.AugAssign (.Subscript (.Name y p1) b p2) op a pos) (tAugP f i tb ta) :=
  ⟨ps_imp (ps_augS (pe_var hN hv hd hcd) hb.pe pget_list ha.pe ho set_list hst) fun E σ H ⟨g, F, ρ, d, s, q, h⟩ => by
    unfold tAugP at q
    split at q
    · rename_i xs hx
      obtain ⟨p, vs, ds, e2, h1, h3, h4, h5, h6, h7⟩ := s.ownAt hx hm
      cases e2
      refine ⟨_, h1, g, F, ρ, s, hb.mono ρ _ _ (fun k hk F1 H1 u t1 r1 => ?_) q⟩
      obtain ⟨j, x, rfl, hj, hq⟩ := hk
      obtain ⟨v, hv1, hv2⟩ := h4.get hj
      have hv2 : v = .int x := hv2
      subst hv2
      refine ⟨p, vs, j, .int x, rfl, r1.int, .inl (.inl (t1.keep _ _ h3 h7)), hv1, g, F1, ρ, s.step t1, ha.mono ρ _ _ (fun y hy F2 H2 w t2 r2 => ?_) hq⟩
      have t12 := t1.trans t2
      split at hy
      · rename_i z
        have jl : j < vs.length := (List.getElem?_eq_some_iff.mp hv1).1
        refine ⟨x, z, rfl, r2.int, p, vs, (j : Int), j, rfl, r1.int, t12.keep _ _ h3 h7, by unfold ixN; simp [jl], h.nx g F2 _ σ _ ((s.step t12).putL hm hx h1 (t12.no h3 h5) h6 h7 ((h4.mono t12.mono).set j (show Rp X.K F2 (.int (f x z)) (.int (f x z)) from rfl))) hy⟩
      · exact hy.elim
    · exact q.elim, fun d d' ρ k q => by
    unfold tAugP at q ⊢
    split at q
    · refine hb.mono ρ _ _ (fun y ⟨j, x, h1, h2, q⟩ => ⟨j, x, h1, h2, ha.mono ρ _ _ (fun z q => ?_) q⟩) q
      split at q
      · exact k.nx _ q
      · exact q.elim
    · exact q.elim⟩
end
end PP

set_option Elab.async false
set_option linter.all false
set_option maxRecDepth 100000
set_option maxHeartbeats 1000000
namespace HT
open PySem PySem.Spec PyProof.Rows
section
variable {prog : Program} {w : World} {A : Around} {E : Value → Shared → Prop} {s : Shared}
theorem sliceApplied_back {sl : Addr} {vl vu vs : Value} {n : Nat} {Q : Int × Int × Nat → Shared → Prop} (hs : s.heap.IsSliceOf sl vl vu vs) (pl : IsPart vl none) (pu : IsPart vu none) (ps : IsPart vs (some (-1)))
    (h : Q ((n : Int) - 1, -1, n) s) : wpAny (model prog w) A (Builtin.Slice.sliceApplied (.ref sl) (pure (n : Int))) Q E s := by
  obtain ⟨os, hos, hcs, hds⟩ := id hs
  unfold Builtin.Slice.sliceApplied Builtin.Slice.sliceFields
  refine wpAny_bind (wpAny_bind (wpAny_field hos hds (x := vl) rfl (wpAny_bind (wpAny_field hos hds (x := vu) rfl (wpAny_bind (wpAny_field hos hds (x := vs) rfl (wpAny_pure ?_)))))))
  refine wpAny_bind (slicePart_ ps ?_)
  show wpAny _ _ (if ((-1 : Int) == 0) = true then _ else _) _ _ s
  rw [if_neg (by decide)]
  refine wpAny_bind (slicePart_ pl (wpAny_bind (slicePart_ pu (wpAny_bind (wpAny_pure ?_)))))
  show wpAny _ _ (match Builtin.Slice.sliceAdjust none none (-1) (n : Int) with | (lo, hi) => pure (lo, (-1 : Int), Builtin.Slice.slicePlaces lo hi (-1))) _ _ s
  have e : Builtin.Slice.sliceAdjust none none (-1) (n : Int) = ((n : Int) - 1, -1) := by
    unfold Builtin.Slice.sliceAdjust
    simp
  rw [e]
  show wpAny _ _ (pure ((n : Int) - 1, (-1 : Int), Builtin.Slice.slicePlaces ((n : Int) - 1) (-1) (-1))) _ _ s
  have e2 : Builtin.Slice.slicePlaces ((n : Int) - 1) (-1) (-1) = n := by
    unfold Builtin.Slice.slicePlaces
    have h1 : ¬ (-1 : Int) > 0 := by omega
    simp only [h1, if_false]
    rw [show -(-1 : Int) = 1 from rfl, Int.ediv_one]
    split <;> omega
  rw [e2]
  exact wpAny_pure h
theorem pick_back (xs : Array Value) : ((List.range xs.size).filterMap fun (m : Nat) => xs[(((xs.size : Int) - 1) + (m : Int) * (-1)).toNat]?).toArray = xs.toList.reverse.toArray := by
  congr 1
  have key : ∀ k, k ≤ xs.size → (List.range k).filterMap (fun (m : Nat) => xs[(((xs.size : Int) - 1) + (m : Int) * (-1)).toNat]?) = xs.toList.reverse.take k := by
    intro k
    induction k with
    | zero => intro _; rfl
    | succ k ih =>
      intro hk
      rw [List.range_succ, List.filterMap_append, ih (by omega), List.take_add_one]
      congr 1
      have e : (((xs.size : Int) - 1) + (k : Int) * (-1)).toNat = xs.size - 1 - k := by omega
      have lt : xs.size - 1 - k < xs.size := by omega
      have e3 : xs.toList.reverse[k]? = some xs[xs.size - 1 - k] := by
        rw [List.getElem?_reverse (by rw [Array.length_toList]; omega)]
        simp [lt]
      rw [e3, List.filterMap_cons, e, Array.getElem?_eq_getElem lt]
      rfl
  have := key xs.size (Nat.le_refl _)
  rw [this, List.take_of_length_le (by simp)]
theorem getItem_tuple_back {t sl : Addr} {items : Array Value} {vl vu vs : Value} {Q : Value → Shared → Prop} (ht : IsTup s.heap t items) (hs : s.heap.IsSliceOf sl vl vu vs) (pl : IsPart vl none) (pu : IsPart vu none) (ps : IsPart vs (some (-1)))
    (h : Q (.ref s.heap.objs.size) { s with heap := s.heap.push { cls := .type "tuple", data := .seq items.toList.reverse.toArray } })
    (hsz : items.size ≤ sizeLine) : wpAny (model prog w) A (getItem (.ref t) (.ref sl)) Q E s := by
  have htake : sizeOk (.seq items.toList.reverse.toArray) := by
    show items.toList.reverse.toArray.size ≤ sizeLine
    rw [List.size_toArray, List.length_reverse, Array.length_toList]
    exact hsz
  obtain ⟨os, hos, hcs, hds⟩ := id hs
  have hTs : s.TypeIs (.ref sl) "slice" := ⟨os, hos, hcs⟩
  unfold getItem
  try with_reducible refine wpAny_holding ?_
  first | refine wpAny_bind (wpAny_pure ?_) | skip
  refine wpAny_bind (wpAny_sequenceKey ht.typeIs (by decide) ?_)
  refine wpAny_bind (wpAny_callSpecial?_slot (name := Str.ofString "__getitem__") ht.typeIs PyProof.Rows.slot_tuple_getitem
    (wpAny_call_entry PyProof.Rows.slot_tuple_getitem ht.typeIs entry_tuple_getitem ?_ (args_tuple_getitem _ _)))
  show wpAny _ _ (Builtin.Tuple.tupleItemsOf (.ref t) >>= _) _ _ s
  refine wpAny_bind (tupleItemsOf_ ht ?_)
  refine wpAny_bind (wpAny_typeOf hTs ?_)
  rw [if_pos (by decide)]
  refine wpAny_bind (sliceApplied_back hs pl pu ps ?_)
  have hno : ¬ (((((items.size : Nat) : Int) - 1) == 0 && (-1 : Int) == 1 && items.size == items.size) = true) := by
    intro q
    rw [Bool.and_eq_true, Bool.and_eq_true] at q
    exact absurd (eq_of_beq q.1.2) (by decide)
  show wpAny _ _ (if ((((items.size : Nat) : Int) - 1) == 0 && (-1 : Int) == 1 && items.size == items.size) = true then _ else _) _ _ s
  rw [if_neg hno, pick_back]
  first
    | exact wpAny_bind (m := Builtin.Tuple.tupleExact _) (wpAny_newObj_type (wpAny_pure ⟨_, rfl, wpAny_pure h⟩) htake)
    | exact wpAny_bind (m := Builtin.Tuple.tupleExact _) (wpAny_newObj_type (wpAny_bind (wpAny_pure (wpAny_pure ⟨_, rfl, wpAny_pure h⟩))) htake)
    | exact wpAny_bind (wpAny_bind (m := Builtin.Tuple.tupleExact _) (wpAny_newObj_type (wpAny_pure (wpAny_pure ⟨_, rfl, wpAny_pure h⟩)) htake))
    | exact wpAny_bind (wpAny_bind (m := Builtin.Tuple.tupleExact _) (wpAny_newObj_type (wpAny_pure ⟨_, rfl, wpAny_pure h⟩) htake))
end
end HT
namespace PP
open PySem PySem.Spec PyProof.Rows L2
section
variable {X : Cx} {e : Ent} {M : List Md} {a b c : Expr} {xs : List Expr} {tA : DA} {ta tb : DT} {pos p p1 p2 p3 : Pos}
/-! ### x[::-1] of a tuple -/
def tRevT (K : PySem.W.Frag) (te : TE) : TE := fun σ H Q => te σ H fun x H1 => ∃ a xs, x = .ref a ∧ SqT K H1 a xs ∧ NewT H1 xs.reverse Q
theorem pe_revT {e : Expr} {te : TE} {k : Nat} (he : PE X e te) : PE X (.Subscript e (.Slice none none (some (.UnaryOp .USub (.Constant (.int 1) k p1) p2)) p3) pos) (tRevT X.K te) := by
  refine ⟨fun pins s σ H Q I h => ?_⟩
  refine Subscript_ (thn (he.run pins s σ H _ I h) fun v s1 ⟨x, H1, I1, r1, q1⟩ => ?_)
  obtain ⟨a, xs, ex, hx, q⟩ := q1
  subst ex
  cases r1
  have hst : PO X (some (.UnaryOp .USub (.Constant (.int 1) k p1) p2)) (tPart (tUn (rU fun i => .int (-i)) (tC (.int 1)))) := po_some (pe_un un_neg pe_int)
  refine wpAny_Slice (thn (po_none.run pins s1 σ H1 (fun o H2 => o = none ∧ H2 = H1) I1 ⟨rfl, rfl⟩) fun vl s2 ⟨l, H2, I2, pl, el, e2⟩ => ?_)
  subst el e2
  refine thn (po_none.run pins s2 σ H2 (fun o H3 => o = none ∧ H3 = H2) I2 ⟨rfl, rfl⟩) fun vu s3 ⟨u, H3, I3, pu, eu, e3⟩ => ?_
  subst eu e3
  refine thn (hst.run pins s3 σ H3 (fun o H4 => o = some (-1) ∧ H4 = H3) I3 ⟨1, rfl, -1, rfl, rfl, rfl⟩) fun vs s4 ⟨o, H4, I4, ps, eo, e4⟩ => ?_
  subst eo e4
  have I5 : Inv X pins σ H4 { s4 with heap := s4.heap.push { cls := .type "slice", data := .fields #[vl, vu, vs] } } := I4.kept (t' := s4.toks) fun b ob q => Heap.get?_push_of_some _ q
  obtain ⟨its, r, ht, hz⟩ := I5.tuple hx
  have hlen := r.length
  show wpAny (model X.prog X.w) X.A (subscriptTail e (.Slice none none (some (.UnaryOp .USub (.Constant (.int 1) k p1) p2)) p3) (.ref a) (.ref s4.heap.objs.size)) (EP X pins σ Q) X.xe { s4 with heap := s4.heap.push { cls := .type "slice", data := .fields #[vl, vu, vs] } }
  refine tail_any (ops := [.ref a, .ref s4.heap.objs.size]) ht.typeIs (PyProof.Rows.slot_tuple_getitem.lookup) ?_ (by with_unfolding_all rfl)
  refine HT.getItem_tuple_back ht (Heap.IsSliceOf.new _ vl vu vs) pl pu ps ?_ (by rw [List.size_toArray]; omega)
  exact new_tup I5 rfl rfl rfl ⟨_, rfl⟩ (by rw [List.length_reverse]; exact hz) r.reverse q
def tRevD (ta : DT) : DT := fun ρ Q => ta ρ fun d => match d with | .tuple xs => Q (.tuple xs.reverse) | _ => False
theorem de_revT {k : Nat} (ha : RE X e M a ta) : DE X e M (.Subscript a (.Slice none none (some (.UnaryOp .USub (.Constant (.int 1) k p1) p2)) p3) pos) (tRevD ta) :=
  ⟨pe_imp (pe_revT ha.pe) fun σ H Q ⟨g, F, ρ, sr, q⟩ => ⟨g, F, ρ, sr, ha.mono ρ _ _ (fun d hd F1 H1 v s rv => by
    split at hd
    · obtain ⟨p, vs, rfl, hp, r⟩ := rv.tup
      have bs := s.bs sr.bs
      exact ⟨p, vs, rfl, bs.sub.sqT hp, fun z o hn hc hdn => hd (upd F1 z (.frz o (.tup vs.reverse))) _ _ (s.trans (bs.alloc hn _)) ⟨z, _, rfl, FrT.new hc hdn, r.reverse.mono (.new (bs.sub.none hn))⟩⟩
    · exact hd.elim) q⟩, fun ρ Q Q' f q => ha.mono ρ _ _ (fun d q => by
    split at q
    · exact f _ q
    · exact q.elim) q⟩
/-! ### x != () of any tuple -/
def rNeT (K : PySem.W.Frag) : R2 := fun x y H Q => ∃ a b xs, x = .ref a ∧ y = .ref b ∧ SqT K H a xs ∧ SqT K H b [] ∧ Q (.bl (!xs.isEmpty)) H
theorem op_neT (hu : X.A.units + 64 < cLine) : OpR X (compareOp .NotEq) (rNeT X.K) := by
  intro pins s σ H x y v u Q I rx ry h
  obtain ⟨a, b, xs, rfl, rfl, ha, hb, q⟩ := h
  cases rx
  cases ry
  obtain ⟨its, r1, p1, _⟩ := I.tuple ha
  obtain ⟨its2, r2, p2, _⟩ := I.tuple hb
  cases r2
  have key := SeqAt.RcNeAt.tuples (A := X.A) (s := s) (l := a) (b := b) (e := fun _ => true) p1 p2 (by omega) (fun j h1 h2 => by simp at h2)
  refine key _ _ _ _ ⟨.bl (!xs.isEmpty), H, I, ?_, q⟩
  have e : xs.isEmpty = its.isEmpty := by
    cases r1 <;> rfl
  rw [e]
  cases its with
  | nil => rfl
  | cons a l => exact rfl
def kNeT : K2 := fun x y Q => match x, y with | .tuple xs, .tuple [] => Q (.bool (!xs.isEmpty)) | _, _ => False
theorem kNeT_mono : Mono2 kNeT := fun x y Q Q' h q => by
  unfold kNeT at q ⊢
  split at q
  · exact h _ q
  · exact q.elim
theorem says_neT : Says2 X (rNeT X.K) kNeT := fun g F H dx dy x y Qv q bs rx ry hk k => by
  unfold kNeT at hk
  split at hk
  · obtain ⟨p, vs, rfl, hp, r⟩ := rx.tup
    obtain ⟨p2, vs2, rfl, hp2, r2⟩ := ry.tup
    have e2 : vs2 = [] := r2
    subst e2
    refine ⟨p, p2, vs, rfl, rfl, bs.sub.sqT hp, bs.sub.sqT hp2, ?_⟩
    have := k _ F H _ hk bs.refl rfl
    rw [r.empty]
    exact this
  · exact hk.elim
theorem dc_neT (hu : X.A.units + 64 < cLine) (ha : RE X e M a ta) (hb : RE X e M b tb) : DC X e M (.Compare a [.NotEq] [b] pos) (tTst (t2 kNeT ta tb)) := dc_cmp (op_neT hu) says_neT kNeT_mono ha hb (nm (by decide) (by decide))
/-! ### {} -/
theorem de_dict0 : DE X e M (.Dict [] [] pos) (tK (.dict [])) :=
  ⟨pe_imp pe_dnewK fun σ H Q ⟨g, F, ρ, sr, q⟩ => fun z hn => q (upd F z (.dK [])) _ (.ref z) (sr.bs.alloc hn _) ⟨z, [], rfl, upd_same, rfl⟩, tK_mono _⟩
/-! ### repr of anything -/
def RprA (d : D) : Prop := d.showable = true ∧ d.depth ≤ 64 ∧ d.shown.length ≤ sizeLine
def rRprA (K : PySem.W.Frag) : List V → Hp → VK → Prop := fun xs H Q => ∃ v d, xs = [v] ∧ Rp K H d v ∧ RprA d ∧ Q (.str d.shown) H
theorem call_rprA (sy : ∃ o, X.base.get? sysModules = some o) (hgd : X.A.guards = some []) (hu : X.A.units + 80 < cLine) : CallR X (.builtin "repr") (rRprA X.K) := by
  intro pins s σ H xs us Q I r h
  obtain ⟨v, d, rfl, hr, ⟨ok1, ok2, ok3⟩, q⟩ := h
  obtain ⟨u, rfl, rv⟩ := vals1 r
  obtain ⟨oS, hS⟩ := sy
  have n1 : H sysModules = none := (I.bs _ _ hS).2
  have fin : ∀ h' u tk, (∀ b o, s.heap.get? b = some o → h'.get? b = some o) → EP X pins σ Q (.str d.shown u) { s with heap := h', toks := tk } := fun h' u tk hk => ⟨.str d.shown, H, I.kept hk, ⟨u, rfl⟩, q⟩
  have fin0 : EP X pins σ Q (.str d.shown s.toks) { s with toks := s.toks + 1 } := ⟨.str d.shown, H, I.tok _, ⟨_, rfl⟩, q⟩
  have byRef : ∀ a, u = .ref a → wpAny (model X.prog X.w) X.A (call (.builtin "repr") [u]) (EP X pins σ Q) X.xe s := fun a e => by
    subst e
    obtain ⟨as, rd, nm⟩ := Rp.shows I n1 d v _ hr rv
    exact repr_of_reads' rd ok1 (fun _ z => nm _ z rfl) hgd (by omega) (fun _ _ e => e) fin ok3
  cases d with
  | none =>
    have hr : v = .non := hr
    subst hr
    cases (show u = Value.none from rv)
    exact P.repr_of_none (by simpa only [PyData.shown] using fin0)
  | bool b =>
    have hr : v = .bl b := hr
    subst hr
    cases (show u = Value.bool b from rv)
    exact P.repr_of_bool (by simpa only [PyData.shown] using fin0)
  | int i =>
    have hr : v = .int i := hr
    subst hr
    obtain ⟨t, rfl⟩ := (show ∃ t, u = Value.int i t from rv)
    exact P.repr_of_int (by simpa [PyData.showable] using ok1) (by simpa only [PyData.shown] using fin0)
  | str z =>
    have hr : v = .str z := hr
    subst hr
    obtain ⟨t, rfl⟩ := (show ∃ t, u = Value.str z t from rv)
    exact P.repr_of_str (by simpa only [PyData.shown] using fin0) (by simpa only [PyData.shown] using ok3)
  | list ds => obtain ⟨a, xs, rfl, _⟩ := hr; exact byRef a rv
  | tuple ds => obtain ⟨a, xs, rfl, _⟩ := hr; exact byRef a rv
  | dict ds => obtain ⟨a, xs, rfl, _⟩ := hr; exact byRef a rv
def kRprA : KC := fun ds Q => match ds with
  | [d] => RprA d ∧ Q (.str d.shown)
  | _ => False
theorem kRprA_mono : MonoC kRprA := fun ds Q Q' f q => by
  unfold kRprA at q ⊢
  split at q
  · exact ⟨q.1, f _ q.2⟩
  · exact q.elim
theorem says_rprA : SaysC X (rRprA X.K) kRprA := by
  intro g F H ds vs Qv q bs rv hk k
  unfold kRprA at hk
  split at hk
  · obtain ⟨v, rfl, r⟩ := rv.one
    exact ⟨v, _, rfl, r.now bs, hk.1, k _ F H _ hk.2 bs.refl rfl⟩
  · exact hk.elim
theorem de_reprA (sy : ∃ o, X.base.get? sysModules = some o) (hgd : X.A.guards = some []) (hu : X.A.units + 80 < cLine) (hg : Gl X "repr") (hm : X.mg "repr" = none) (ha : AR X e M (a :: xs) tA)
    (he : starEach (a :: xs) X.env = (false, eval a X.env) :: starEach xs X.env := by rfl) (hpl : (backTo pos (starEach xs X.env)).any (·.1) = false := by rfl) :
    DE X e M (.Call (.Name "repr" p) (a :: xs) [] pos) (tCl kRprA tA) := de_callB (call_rprA sy hgd hu) says_rprA kRprA_mono hg hm (by decide +kernel) ha (he := he) (hpl := hpl)
end
end PP

set_option Elab.async false
set_option linter.all false
set_option maxRecDepth 100000
set_option maxHeartbeats 1000000
namespace PP
open PySem PySem.Spec PyProof.Rows L2
def tabFind (tab : List (Str × Int)) (z : Str) : Option Int := (tab.find? fun p => p.1 == z).map (·.2)
/-- a written dict of the module from texts to ints -/
structure KTab (K : PySem.W.Frag) (w : World) (mg : Str → Option Value) (y : Str) (tab : List (Str × Int)) : Prop where
  ex : ∃ d es n, mg y = some (.ref d) ∧ KDict K w d es n ∧ ∀ z, ∃ r, PySem.W.nsIn K d z = some r ∧ match tabFind tab z with | some i => ∃ t, r = some (.int i t) | none => r = none
section
variable {X : Cx} {e : Ent} {M : List Md} {a b c : Expr} {xs : List Expr} {tA : DA} {ta tb : DT} {pos p p1 p2 p3 apos cpos : Pos} {y : Str} {tab : List (Str × Int)}
def tKget (tab : List (Str × Int)) (ty : TE) : TE := fun σ H Q => ty σ H fun v H1 => ∃ z, v = .str z ∧ Q (match tabFind tab z with | some i => .int i | none => .non) H1
theorem pe_kget {ty : TE} (T : KTab X.K X.w X.mg y tab) (hg : Gl X y) (he : PE X a ty) (m : M1 X (.Name y p1) "get" apos a cpos) (hd : (y == ("__debug__" : Str)) = false := by decide) : PE X (.Call (.Attribute (.Name y p1) "get" apos) [a] [] cpos) (tKget tab ty) := by
  obtain ⟨d, es, n, hm, D, T⟩ := T.ex
  refine ⟨fun pins s σ H Q I h => ?_⟩
  have ho : PE X (.Name y p1) (tC (.ref d)) := pe_glob hg hm rfl hd
  refine wpAny_Call_method m.base m.few m.line PySem.F.plainAttrs_dict PySem.F.slot_dict_get PySem.F.type_dict_get (thn (ho.run pins s σ H (fun x H1 => x = .ref d ∧ H1 = H) I ⟨rfl, rfl⟩) fun u s1 ⟨x, H1, I1, rx, ex, eH⟩ => ?_)
  subst ex eH
  obtain rfl : u = Value.ref d := rx
  refine ⟨kd_type D I1, fun b q => ?_, ?_⟩
  · cases q
    exact ⟨_, I1.kIn _ _ D.at_, rfl⟩
  rw [m.trees]
  refine Calls.callWith_builtin rfl (Calls.evalArgs_plain (Calls.spliced_cons (thn (he.run pins s1 σ H1 _ I1 h) fun iv s2 ⟨v, H2, I2, ry, z, ev, q2⟩ => Calls.spliced_nil ?_)))
  subst ev
  obtain ⟨t, rfl⟩ := ry
  obtain ⟨r, e1, e2⟩ := T z
  refine call_meetsIn PySem.F.slot_dict_get (kd_type D I2) PySem.F.entry_dict_get (PySem.F.args_dict_get_2 _ _) (meets_dict_get (strKind X.prog X.w) d (PySem.strKind_is X.prog X.w z t) D.low) ⟨_, PySem.W.mapOf_K (prog := X.prog) I2.kIn D.at_ D.lit, ?_⟩
  rw [PySem.W.find_K D.at_ e1]
  refine ⟨_, H2, I2.tok _, ?_, q2⟩
  cases q : tabFind tab z with
  | some i =>
    rw [q] at e2
    obtain ⟨t', rfl⟩ := e2
    exact ⟨t', rfl⟩
  | none =>
    rw [q] at e2
    have e2 : r = none := e2
    subst e2
    exact rfl
def tKgetD (tab : List (Str × Int)) (ta : DT) : DT := fun ρ Q => ta ρ fun d => match d with | .str z => Q (match tabFind tab z with | some i => .int i | none => .none) | _ => False
theorem de_kget (T : KTab X.K X.w X.mg y tab) (ha : RE X e M a ta) (hg : Gl X y := by rfl) (m : M1 X (.Name y p1) "get" apos a cpos := by exact ⟨rfl, rfl, rfl, rfl⟩) (hd : (y == ("__debug__" : Str)) = false := by decide) :
    DE X e M (.Call (.Attribute (.Name y p1) "get" apos) [a] [] cpos) (tKgetD tab ta) :=
  ⟨pe_imp (pe_kget T hg ha.pe m hd) fun σ H Q ⟨g, F, ρ, sr, q⟩ => ⟨g, F, ρ, sr, ha.mono ρ _ _ (fun d hd F1 H1 v s rv => by
    split at hd
    · rename_i z
      refine ⟨z, rv.str, hd F1 H1 _ s ?_⟩
      cases tabFind tab z <;> exact rfl
    · exact hd.elim) q⟩, fun ρ Q Q' f q => ha.mono ρ _ _ (fun d q => by
    split at q
    · exact f _ q
    · exact q.elim) q⟩
/-! ### {'a': 1, ..}.get(x, y) -/
def pairTr (tab : List (Str × Int)) : List (TE × TE) := tab.map fun p => (tC (.str p.1), tC (.int p.2))
theorem tPairs_con : ∀ (tab : List (Str × Int)) (σ : L2.St) (H : Hp) (Q : List (V × V) → Hp → Prop), Q (tab.map fun p => (V.str p.1, V.int p.2)) H → tPairs (pairTr tab) σ H Q
  | [], _, _, _, h => h
  | p :: tab, σ, H, Q, h => tPairs_con tab σ H (fun ps H3 => Q ((V.str p.1, V.int p.2) :: ps) H3) h
def kvsOf (tab : List (Str × Int)) : List (Key × V) := tab.map fun p => (Sum.inr p.1, V.int p.2)
theorem val_kvs (z : Str) : ∀ tab : List (Str × Int), valV (kvsOf tab) (Sum.inr z) = (tabFind tab z).map V.int
  | [] => rfl
  | p :: tab => by
    have ih := val_kvs z tab
    unfold tabFind at ih ⊢
    by_cases c : p.1 = z
    · subst c
      simp [valV, kvsOf]
    · have c2 : (p.1 == z) = false := by simpa using c
      rw [List.find?_cons_of_neg (by rw [c2]; decide), ← ih]
      simp [valV, kvsOf, c]
def tDispG (tab : List (Str × Int)) (ta tb : DT) : DT := fun ρ Q => ta ρ fun d => tb ρ fun d' => match d, d' with | .str z, .int i => Q (.int ((tabFind tab z).getD i)) | _, _ => False
theorem de_dispG {keys : List (Option Expr)} {values : List Expr} (hu : X.A.units + 64 < cLine) (h : PPs X pos keys values (pairTr tab)) (ha : RE X e M a ta) (hb : RE X e M b tb) (hall : keys.all (·.isSome) = true := by rfl) (hl : keys.length = values.length := by rfl) (h0 : keys ≠ [] := by exact fun z => nomatch z)
    (h15 : keys.length ≤ 15 := by decide) (h16 : tab.length ≤ 15 := by decide) (hM : mergeK [] (kvsOf tab) = kvsOf tab := by rfl) (m : M2 X (.Dict keys values pos) "get" apos a b cpos := by exact ⟨rfl, rfl, rfl, rfl⟩) :
    DE X e M (.Call (.Attribute (.Dict keys values pos) "get" apos) [a, b] [] cpos) (tDispG tab ta tb) :=
  ⟨pe_imp (pe_dget2 (by omega) (pe_disp h hall hl h0 h15) ha.pe hb.pe m) fun σ H Q ⟨g, F, ρ, sr, q⟩ => fun pd hp => by
    refine tPairs_con tab σ _ _ ⟨upd_same, kvsOf tab, by simp [kvsOf, kV], by simpa [kvsOf] using h16, pd, rfl, .inl ⟨_, .inl upd_same⟩, ?_⟩
    rw [upd_upd, hM]
    have st : Stp g F H F (upd H pd (.dK (kvsOf tab))) := sr.bs.hide hp _
    have nm : ¬ g.mem pd := sr.nmem hp
    refine ⟨g, F, ρ, sr.step st, ha.mono ρ _ _ (fun d hd F1 H1 v s1 r1 => ⟨g, F1, ρ, (sr.step st).step s1, hb.mono ρ _ _ (fun d' hd' F2 H2 v2 s2 r2 => ?_) hd⟩) q⟩
    have s12 := s1.trans s2
    split at hd'
    · rename_i z i
      have hD : H2 pd = some (.dK (kvsOf tab)) := s12.keep _ _ upd_same nm
      obtain rfl : v = .str z := r1.str
      obtain rfl : v2 = .int i := r2.int
      refine ⟨_, DGet.k (k := Sum.inr z) hD, ?_⟩
      rw [val_kvs]
      have := hd' F2 H2 (.int ((tabFind tab z).getD i)) (st.trans s12) rfl
      cases q2 : tabFind tab z with
      | some j => rw [q2] at this; exact this
      | none => rw [q2] at this; exact this
    · exact hd'.elim, fun ρ Q Q' f q => ha.mono ρ _ _ (fun d q => hb.mono ρ _ _ (fun d' q => by
    split at q
    · exact f _ q
    · exact q.elim) q) q⟩
end
end PP

set_option Elab.async false
set_option linter.all false
set_option maxRecDepth 100000
set_option maxHeartbeats 1000000
namespace PP
open PySem PySem.Spec PyProof.Rows L2
/-- the wish about an exception: its class, and the slots as data -/
abbrev RX := Value → En → Prop
def WR (K : PySem.W.Frag) (e : Ent) (M : List Md) (R : RX) : WX := fun cls d σ H => d = none ∧ ∃ g F ρ, SR K e M g F H σ ρ ∧ R cls ρ
section
variable {X : Cx} {e : Ent} {M : List Md} {x : Str} {p pos : Pos} {C : Addr} {bmB : List Value} {B newId initId : String} {R : RX}
/-- X() -/
theorem pmk_own0 (F : ExcBaseFacts B newId initId bmB) (q : PySem.W.excIn X.K C bmB newId = true) (gC : X.mg x = some (.ref C)) (kC : PySem.W.keepIn X.K (.ref C) = true) (r : Raises X (.ref C)) (hg : Gl X x)
    (hdb : (x == ("__debug__" : Str)) = false := by decide) : PMk X (.Call (.Name x p) [] [] pos) (fun _ H Q => Q (.ref C) none H) := by
  intro pins s σ H Q I h
  refine wpAny_Call_Name_kw (ld_glob I hg gC ?_ hdb)
  refine PySem.W.callWith_K0 I.kIn kC ?_
  show wpAny _ _ (call (.ref C) []) _ _ _
  obtain ⟨bm, N, nm, qn, bs, hdct, sn, sub, ab, col, dd, k0, k1, k2, k3, k5, mN, hC, hN, hni, T⟩ := exc_obj I.kIn q
  refine wpAny_call_exc_subT F T hC hN hni (fun h' e hm => ?_) (Nat.zero_le _)
  exact mk_of I hm r h (I.hok.gone hm.new)
theorem ds_raise {a : Expr} {c : Value} (hc : X.calm = true) (tk : Takes X (WR X.K e M R)) (he : PMk X a (fun _ H Q => Q c none H)) : DS X e M (.Raise (some a) none pos) (fun _ ρ => R c ρ) :=
  ⟨ps_imp (ps_raise hc tk he) fun E σ H ⟨g, F, ρ, d, s, q, h⟩ => ⟨rfl, g, F, ρ, s, q⟩, fun _ _ _ _ q => q⟩
theorem dss_nox {st : List Stmt} {t : DTS} (D : DSs X.nox e M st t) : DSs X e M st t := ⟨D.ps.nox, D.mono⟩
end
/-! ### a def that may let an exception out -/
abbrev KX := List D → (D → Prop) → (Value → Prop) → Prop
def MonoX (k : KX) : Prop := ∀ ds (Q Q' : D → Prop) (R R' : Value → Prop), (∀ d, Q d → Q' d) → (∀ c, R c → R' c) → k ds Q R → k ds Q' R'
def spX (K : PySem.W.Frag) (ms : List Md) (k : KX) : Sp := fun vs H Q E =>
  ∃ g F ds, Bs g F H ∧ ArgsOk K g F H ms ds vs ∧ k ds (fun d => ∀ F' H' v, Stp g F H F' H' → Rp K F' d v → Q v H') fun cls => ∀ F' H', Stp g F H F' H' → E cls none H'
section
variable {P : Program} {w : World} {K : PySem.W.Frag} {mg : Str → Option Value} {base : Heap}
theorem fnX {x qual : Str} {st : Stmt} {f : Addr} {fd : FuncData} {N ps : List Str} {M ms : List Md} {k : Nat} {kf : KX} {t : RX → DTS} (F : Fun K x qual st f fd) (S : FnScope N ps (defScope st)) (hM : M.take ms.length = ms) (hp : ms.all Md.par = true) (hms : ms.length = ps.length) (hn : ps.length ≤ N.length) (hso : soloM M = true)
    (bd : ∀ (cdv : Value) (A : Around) (outer : List Env) (s : Shared) (H : Hp) (E : XK) (e : Ent) (R : RX), Room k (A.deeper (envOfC qual (defScope st) s.heap.objs.size f cdv)) → (A.deeper (envOfC qual (defScope st) s.heap.objs.size f cdv)).guards = some [] →
      Takes (cxOf (L2.CX P w) P w K mg base N qual (defScope st) f cdv A outer s H E) (WR K e M R) →
      DSs (cxOf (L2.CX P w) P w K mg base N qual (defScope st) f cdv A outer s H E) e M (defBody st) (t R))
    (sp : ∀ ds (Q : D → Prop) (R : Value → Prop), kf ds Q R → t (fun c _ => R c) { nx := fun _ => Q .none, rt := Q } (startD N.length ds)) : FnG P w K mg base (L2.CX P w) (k + 1) f fd ps (spX K ms kf) := by
  refine fnG_of F S (fun vs H Q E ⟨g, F, ds, bs, a, _⟩ => ?_) fun cdv A outer s H vs Q E hr hg h => ?_
  · rw [a.len, hms]
  · obtain ⟨g, F0, ds, bs, a, q⟩ := h
    have tk := (takes_of (X := cxOf (L2.CX P w) P w K mg base N qual (defScope st) f cdv A outer s H E) (E := E) rfl rfl rfl rfl).imp (W' := WR K ⟨g, F0, H, F0⟩ M fun cls _ => ∀ F' H', Stp g F0 H F' H' → E cls none H')
      fun cls d σ H' ⟨hd, g', F', ρ, sr, hR⟩ => by rw [hd]; exact hR F' H' sr.stp
    have D := bd cdv A outer s H E ⟨g, F0, H, F0⟩ _ hr hg tk
    refine ⟨_, D.ps, g, F0, _, _, SR.begin bs a hM hp (by omega) hso, sp ds _ _ q, ?_⟩
    exact ⟨fun g' F' H' σ' ρ' s' q' => q' F' H' .non s'.stp rfl, fun F' H' d v t' r q' => q' F' H' v t' r, fun _ _ _ _ _ _ z => z.elim, fun _ _ _ _ _ _ z => z.elim, fun _ _ _ _ _ _ _ _ _ z => z.elim⟩
structure ClX (P : Program) (w : World) (K : PySem.W.Frag) (mg : Str → Option Value) (base : Heap) (k : Nat) (x : Str) (ps : List Str) (ms : List Md) (kf : KX) : Prop where
  ex : ∃ f fd, mg x = some (.ref f) ∧ PySem.W.keepIn K (.ref f) = true ∧ Binds K fd ps [] ∧ FnG P w K mg base (L2.CX P w) k f fd ps (spX K ms kf)
  mo : MonoX kf
theorem clX {x : Str} {st : Stmt} {N ps : List Str} {M ms : List Md} {k : Nat} {kf : KX} (h : Hd K mg x st ps) (S : FnScope N ps (defScope st)) (mo : MonoX kf)
    (hM : M.take ms.length = ms) (hp : ms.all Md.par = true) (hms : ms.length = ps.length) (hn : ps.length ≤ N.length)
    (bd : ∃ t : RX → DTS, (∀ (f : Addr) (cdv : Value) (A : Around) (outer : List Env) (s : Shared) (H : Hp) (E : XK) (e : Ent) (R : RX), Room k (A.deeper (envOfC x (defScope st) s.heap.objs.size f cdv)) → (A.deeper (envOfC x (defScope st) s.heap.objs.size f cdv)).guards = some [] →
      Takes (cxOf (L2.CX P w) P w K mg base N x (defScope st) f cdv A outer s H E) (WR K e M R) →
      DSs (cxOf (L2.CX P w) P w K mg base N x (defScope st) f cdv A outer s H E) e M (defBody st) (t R)) ∧
      (∀ ds (Q : D → Prop) (R : Value → Prop), kf ds Q R → t (fun c _ => R c) { nx := fun _ => Q .none, rt := Q } (startD N.length ds))) (hso : soloM M = true := by rfl) : ClX P w K mg base (k + 1) x ps ms kf := by
  obtain ⟨f, fd, F, b, m⟩ := h.ex
  obtain ⟨t, d, sp⟩ := bd
  exact ⟨⟨f, fd, m, F.kp, b, fnX F S hM hp hms hn hso (fun cdv A outer s H E e R hr hg tk => d f cdv A outer s H E e R hr hg tk) sp⟩, mo⟩
end
section
variable {X : Cx} {e : Ent} {M ms : List Md} {a : Expr} {xs : List Expr} {tr : DA} {y : Str} {ps : List Str} {k : Nat} {p pos : Pos} {R : RX}
theorem goGS {CX : CXT} {f : Addr} {fd : FuncData} {sp : Sp} {E : L2.St → XK} {pins : List (Addr × Obj)} {σ : L2.St} {H : Hp} {s : Shared} {Q : VK} {us : List Value} {vs : List V}
    (F : FnG X.prog X.w X.K X.mg X.base CX k f fd ps sp) (hr : Room k X.A) (hgd : X.A.guards = some []) (hb : Binds X.K fd ps [])
    (hx : PassesAt CX X σ (E σ)) (I : Inv X pins σ H s) (r : Vals vs us) (h : sp vs H Q (E σ)) :
    wpAny (model X.prog X.w) X.A (call (.ref f) us) (EP X pins σ Q) X.xe s := by
  have hl : (us ++ []).length = ps.length := by rw [List.append_nil, ← r.length]; exact F.len _ _ _ _ h
  have hbt := hb s us I.kIn hl
  rw [List.append_nil] at hbt
  refine wpAny_call (codeAny_mono (F.go X.A X.stack s H ⟨us, []⟩ us vs Q (E σ) hr hgd I.env0 hbt r h) ?_)
  intro res s' hq
  match res, hq with
  | .error e, hq => exact hx pins H s e s' I hq
  | .ok (.ret u), hq => exact I.after hq
  | .ok .next, hq => exact False.elim hq
  | .ok .brk, hq => exact False.elim hq
  | .ok .cont, hq => exact False.elim hq
theorem pe_callGS {CX : CXT} {f : Addr} {fd : FuncData} {sp : Sp} {E : L2.St → XK} {t : TA} (F : FnG X.prog X.w X.K X.mg X.base CX k f fd ps sp) (hr : Room k X.A) (hgd : X.A.guards = some []) (hg : Gl X y) (hm : X.mg y = some (.ref f))
    (hk : PySem.W.keepIn X.K (.ref f) = true) (hb : Binds X.K fd ps []) (hx : ∀ σ, PassesAt CX X σ (E σ)) (ha : PA X (a :: xs) t)
    (hdb : (y == ("__debug__" : Str)) = false := by decide) (he : starEach (a :: xs) X.env = (false, eval a X.env) :: starEach xs X.env := by rfl)
    (hpl : (backTo pos (starEach xs X.env)).any (·.1) = false := by rfl) :
    PE X (.Call (.Name y p) (a :: xs) [] pos) (tCallS sp E t) := by
  constructor
  intro pins s σ H Q I h
  refine wpAny_Call_Name_kw (ld_glob I hg hm (PySem.W.callWith_K (h₀ := X.base) I.ok.mod.kin hk ?_ he hpl) hdb)
  refine thn (ha.run pos pins s σ H _ I h) ?_
  rintro us s1 ⟨vs, H1, I1, r, q⟩
  exact ⟨I1.kIn, goGS F hr hgd hb (hx σ) I1 r q⟩
def tClX (kf : KX) (R : RX) (tr : DA) : DT := fun ρ Q => tr ρ fun ds => kf ds Q fun c => R c ρ
theorem de_callX {kf : KX} (Cx : ClX X.prog X.w X.K X.mg X.base k y ps ms kf) (tk : Takes X (WR X.K e M R)) (hr : Room k X.A) (hgd : X.A.guards = some []) (ha : GA X e M ms (a :: xs) tr) (hg : Gl X y := by rfl)
    (hdb : (y == ("__debug__" : Str)) = false := by decide) (he : starEach (a :: xs) X.env = (false, eval a X.env) :: starEach xs X.env := by rfl)
    (hpl : (backTo pos (starEach xs X.env)).any (·.1) = false := by rfl) : DE X e M (.Call (.Name y p) (a :: xs) [] pos) (tClX kf R tr) := by
  obtain ⟨f, fd, h1, h2, h3, h4⟩ := Cx.ex
  have mo := Cx.mo
  refine ⟨pe_imp (pe_callGS h4 hr hgd hg h1 h2 h3 (fun σ => passAt tk σ) ha.pa hdb he hpl) fun σ H Q ⟨g, F, ρ, sr, q⟩ => ⟨g, F, ρ, sr, ha.mono ρ _ _ (fun ds hd F1 H1 vs s rv => ?_) q⟩, fun ρ Q Q' f q => ha.mono ρ _ _ (fun ds q => mo _ _ _ _ _ f (fun _ r => r) q) q⟩
  exact ⟨g, F1, ds, s.bs sr.bs, rv, mo _ _ _ _ _ (fun d hq F2 H2 v s2 r2 => hq F2 H2 v (s.trans s2) r2) (fun c hR F2 H2 s2 => ⟨rfl, g, F2, ρ, (sr.step s).step s2, hR⟩) hd⟩
end
end PP

set_option Elab.async false
set_option linter.all false
set_option maxRecDepth 100000
set_option maxHeartbeats 1000000
namespace PP
open PySem PySem.Spec PyProof.Rows L2
section
variable {K : PySem.W.Frag} {e : Ent} {M : List Md} {g : Rg} {F H : Hp} {σ : L2.St} {ρ : En}
theorem SR.blank (s : SR K e M g F H σ ρ) (i : Nat) (w : Option V) : SR K e M g F H (σ.set i w) (sv ρ i none) where
  bs := s.bs
  stp := s.stp
  grel := s.grel
  low := s.low
  solo := s.solo
  len := by rw [sv_len, List.length_set]; exact s.len
  slot := fun j d h => by
    rw [gt_sv] at h
    by_cases hj : j = i
    · rw [if_pos hj] at h; split at h <;> cases h
    · rw [if_neg hj] at h
      obtain ⟨v, h1, h2⟩ := s.slot j d h
      exact ⟨v, by rw [List.getElem?_set_ne (Ne.symm hj)]; exact h1, h2⟩
  dis := fun j k v w' p hjk h1 h2 h3 h4 h5 h6 => by
    have nj : j ≠ i := fun z => by rw [gt_sv, if_pos z] at h1; split at h1 <;> exact absurd rfl h1
    have nk : k ≠ i := fun z => by rw [gt_sv, if_pos z] at h2; split at h2 <;> exact absurd rfl h2
    rw [gt_sv, if_neg nj] at h1
    rw [gt_sv, if_neg nk] at h2
    rw [List.getElem?_set_ne (Ne.symm nj)] at h3
    rw [List.getElem?_set_ne (Ne.symm nk)] at h4
    exact s.dis j k v w' p hjk h1 h2 h3 h4 h5 h6
theorem sv_same : ∀ {ρ : En} {i : Nat}, gt ρ i = none → sv ρ i none = ρ
  | [], _, _ => rfl
  | x :: r, 0, h => by have h : x = none := h; rw [h]; rfl
  | x :: r, i + 1, h => congrArg (x :: ·) (sv_same (ρ := r) (i := i) h)
end
/-- what the clause's word comes to -/
def teW (i : Nat) (a : Addr) (wd : Str) : TE := fun σ H Q => σ[i]? = some (some (.ref a)) ∧ ∀ H2, (∀ g F, Bs g F H → Stp g F H F H2) → Q (.str wd) H2
abbrev tIs (K : PySem.W.Frag) (D a C : Addr) (i : Nat) : TE := tCB (rIsE K D a) (tCons (tVar i) (tCons (tC (.ref C)) tNil))
theorem told_te {K : PySem.W.Frag} {D a CT CB : Addr} {i : Nat} {b1 b2 : Bool} {wd : Str} {σ : L2.St} {H : Hp} {Q : VK} (k1 : PySem.W.kitOne K (.ref D) (.ref CT) = some b1) (k2 : PySem.W.kitOne K (.ref D) (.ref CB) = some b2)
    (hw : (b1 = true ∧ wd = "many") ∨ (b1 = false ∧ b2 = true ∧ wd = "row")) (h : teW i a wd σ H Q) :
    tOp (rIx K) (tLst (tCons (tC (.str "many")) (tCons (tC (.str "row")) (tCons (tC (.str "other")) tNil)))) (tBM K "list" (rIndex K) (tLst (tCons (tIs K D a CT i) (tCons (tIs K D a CB i) (tCons (tC (.bl true)) tNil)))) (tCons (tC (.bl true)) tNil)) σ H Q := by
  obtain ⟨hσ, q⟩ := h
  refine ⟨show 3 ≤ sizeLine from by decide, fun p hp => ?_⟩
  refine ⟨_, hσ, .ref CT, .ref CT, b1, rfl, fun u r => r, k1, ?_⟩
  refine ⟨_, hσ, .ref CB, .ref CB, b2, rfl, fun u r => r, k2, ?_⟩
  refine ⟨show 3 ≤ sizeLine from by decide, fun r hr => ⟨.inl ⟨rfl, _, .inl (.inl upd_same)⟩, ?_⟩⟩
  have hpr : p ≠ r := fun z => by rw [← z, upd_same] at hr; cases hr
  have hL : upd (upd H p (.lst [V.str "many", .str "row", .str "other"])) r (.lst [V.bl b1, .bl b2, .bl true]) p = some (.lst [V.str "many", .str "row", .str "other"]) := by
    rw [upd_ne hpr, upd_same]
  have fin := q (upd (upd H p (.lst [V.str "many", .str "row", .str "other"])) r (.lst [V.bl b1, .bl b2, .bl true])) fun g F bs => by
    have s1 := bs.hide hp (.lst [V.str "many", .str "row", .str "other"])
    exact s1.trans ((s1.bs bs).hide hr _)
  rcases hw with ⟨rfl, rfl⟩ | ⟨rfl, rfl, rfl⟩
  · exact ⟨r, _, .bl true, 0, .bl true, rfl, rfl, .inl (.inl upd_same), rfl, rfl, rfl, rfl, fun m z' h => absurd h (Nat.not_lt_zero _), .inl ⟨p, _, _, .str "many", rfl, rfl, .inl (.inl hL), rfl, fin⟩⟩
  · refine ⟨r, _, .bl true, 1, .bl true, rfl, rfl, .inl (.inl upd_same), rfl, rfl, rfl, rfl, fun m z' h hz => ?_, .inl ⟨p, _, _, .str "row", rfl, rfl, .inl (.inl hL), rfl, fin⟩⟩
    have : m = 0 := by omega
    subst this
    cases hz
    rfl
section
variable {X : Cx} {e : Ent} {M : List Md} {i j : Nat} {x n y : Str} {c : Value} {body : List Stmt} {ex : Expr} {np p4 p5 pos pos' : Pos} {t : RX → DTS} {wordR : Addr → Str → Prop}
def tTold (i j : Nat) (t : RX → DTS) (wordR : Addr → Str → Prop) : DTS := fun d ρ => (i < ρ.length ∧ gt ρ i = none) ∧ t (fun cls ρ' => ρ' = ρ ∧ ∃ D wd, cls = .ref D ∧ wordR D wd ∧ d.nx (sv ρ j (some (.str wd)))) d ρ
theorem ds_told (hs : X.stack = X.env :: X.outer) (hf : X.env.frame = some X.env.locals) (hN : X.N.Nodup) (hi : X.N[i]? = some n) (hln : X.env.kindOf n = some .local) (hc : Names X x c)
    (hj : X.N[j]? = some y) (hy : Loc X.env.scope y) (hyl : X.fn y = true ∨ X.env.scope.names.lookup y = some .local) (hij : i ≠ j) (hm : md M j = .val) (hw : ∀ D wd, wordR D wd → PySem.W.exmOne X.K (.ref D) c = some true)
    (mo : ∀ (R R' : RX), (∀ c ρ, R c ρ → R' c ρ) → ∀ d ρ, t R d ρ → t R' d ρ)
    (hb : ∀ (R : RX) (pn : List (Addr × Obj)) (xe : Value → Shared → Prop), Takes (X.tr pn xe) (WR X.K e M R) → DSs (X.tr pn xe) e M body (t R))
    (hsu : ∀ (a : Addr) (oe : Obj) (D : Addr) (pn : List (Addr × Obj)) (wd : Str), Zc (.ref D) none oe → (∃ vs, oe.data = .fields vs) → wordR D wd → PE (X.suite a ((a, oe) :: pn)) ex (teW i a wd))
    (hsw : swapsWith ex (some (.Name y p4)) p5.line X.env = pure false := by rfl) :
    DS X e M (.Try body [.ExceptHandler (some (.Name x np)) (some n) [.Assign [.Name y p4] ex p5] pos'] [] [] pos) (tTold i j t wordR) := by
  refine ⟨ps_imp (ps_try_as (Wout := fun _ _ _ _ => False) (tb := fun W D σ H => ∃ R : RX, (∀ c d σ H, WR X.K e M R c d σ H → W c d σ H) ∧ rdS X.K e M (t R) D σ H)
    (ts := fun a cls dd D σ H => ∃ (D' : Addr) (wd : Str), cls = .ref D' ∧ dd = none ∧ wordR D' wd ∧ σ[i]? = some (some (.ref a)) ∧ ∀ H2, (∀ g F, Bs g F H → Stp g F H F H2) → D.nx (σ.set j (some (.str wd))) H2)
    hs hf hN hi hln hc (fun u s' ⟨a, B, sI, pins, σ, H, cls, d, _, _, _, _, _, _, _, _, w⟩ => w.elim) (fun W pn xe tk pw => ?_) (fun a oe cls dd pn hz hfd => ?_)) ?_, ?_⟩
  · refine ⟨fun pins s σ H D I h => ?_⟩
    obtain ⟨R, hR, h⟩ := h
    exact (hb R pn xe (tk.imp hR)).ps.run pins s σ H D I h
  · refine ⟨fun pins s σ H D I h => ?_⟩
    obtain ⟨D', wd, e1, e2, hwd, hσ, hnx⟩ := h
    subst e1 e2
    have P := pss_cons (ps_set hN hj hy (hsu a oe D' pn wd hz hfd hwd) hsw hyl) (X := X.suite a ((a, oe) :: pn)) pss_nil
    exact P.run pins s σ H D I ⟨hσ, fun H2 st => hnx H2 st⟩
  · rintro E σ H ⟨g, F, ρ, d, s, ⟨⟨hl, h0⟩, q⟩, h⟩
    refine ⟨_, ?_, g, F, ρ, d, s, q, h⟩
    rintro cls dd σ' H' ⟨rfl, g', F', ρ', s', rfl, D, wd, rfl, hwd, hnx⟩
    refine ⟨true, hw D wd hwd, fun _ a ha => ?_, fun z => by cases z⟩
    have li : i < σ'.length := by rw [s'.len]; exact hl
    refine ⟨D, wd, rfl, rfl, hwd, by rw [List.getElem?_set_self li], fun H2 st => ?_⟩
    have s1 := s'.blank i (some (.ref a))
    rw [sv_same h0] at s1
    have s2 := (s1.step (st g' F' s'.bs)).setv (i := j) (d := .str wd) (v := .str wd) hm rfl
    have s3 := s2.blank i none
    have hg : gt (sv ρ' j (some (.str wd))) i = none := by rw [gt_sv, if_neg hij]; exact h0
    rw [sv_same hg] at s3
    exact h.nx _ _ _ _ _ s3 hnx
  · rintro d d' ρ k ⟨h0, q⟩
    refine ⟨h0, ?_⟩
    exact mo _ _ (fun c ρ' ⟨e1, D, wd, e2, hwd, hnx⟩ => ⟨e1, D, wd, e2, hwd, k.nx _ hnx⟩) _ _ ((hb _ [] (fun _ _ => True) (fun _ _ _ => trivial)).mono _ _ _ k q)
end
end PP

set_option Elab.async false
set_option linter.all false
set_option maxRecDepth 100000
set_option maxHeartbeats 1000000
namespace PP
open PySem PySem.Spec PyProof.Rows L2
/-- M with the mode of slot i given up -/
structure Remode (M M' : List Md) (i : Nat) : Prop where
  own : md M i = .own
  val : md M' i = .val
  same : ∀ j, j ≠ i → md M' j = md M j
theorem remode_set {M : List Md} {i : Nat} (h : md M i = .own) (l : i < M.length) : Remode M (M.set i .val) i := by
  refine ⟨h, ?_, fun j hj => ?_⟩
  · unfold md; rw [List.getD_eq_getElem?_getD, List.getElem?_set_self l]; rfl
  · unfold md; rw [List.getD_eq_getElem?_getD, List.getD_eq_getElem?_getD, List.getElem?_set_ne (Ne.symm hj)]
section
variable {K : PySem.W.Frag} {e : Ent} {M M' : List Md} {g : Rg} {F H : Hp} {σ : L2.St} {ρ : En} {i : Nat}
theorem SR.frz (s : SR K e M g F H σ ρ) (r : Remode M M' i) {ds : List D} (h : gt ρ i = some (.list ds)) : ∃ F', SR K e M' g F' H σ ρ := by
  obtain ⟨p, vs, ds', e1, e2, h3, h4, h5, h6, h7⟩ := s.ownAt h r.own
  have e1 : ds = ds' := by injection e1
  subst e1
  have up : Le F (upd F p (.lst vs)) := .new h5
  have mi : (md M i).mine = true := by rw [r.own]; rfl
  have gi : gt ρ i ≠ none := by rw [h]; exact fun z => nomatch z
  refine ⟨upd F p (.lst vs), ⟨⟨fun a u q => ?_, s.bs.ok, fun a ma => ?_⟩, s.stp.freeze h6 h5 h3, s.grel, s.len, fun j d hj => ?_, fun j k u w q hjk h1 h2 h3 h4 h5 h6 => ?_, s.low.trans up, trivial⟩⟩
  · by_cases c : a = p
    · subst c; rw [upd_same] at q; cases q; exact h3
    · rw [upd_ne c] at q; exact s.bs.sub a u q
  · rw [upd_ne fun z => h7 (by rw [← z]; exact ma)]
    exact s.bs.out a ma
  · by_cases c : j = i
    · subst c
      rw [h] at hj
      cases hj
      rw [r.val]
      exact ⟨_, e2, p, vs, rfl, upd_same, h4.mono up⟩
    · obtain ⟨v, a1, a2⟩ := s.slot j d hj
      refine ⟨v, a1, ?_⟩
      rw [r.same j c]
      have gj : gt ρ j ≠ none := by rw [hj]; exact fun z => nomatch z
      have ne : ∀ q, foot H (md M j) v q → q ≠ p := fun q fq z => by
        subst z
        exact s.dis j i v _ q c gj gi a1 e2 fq ((foot_mine mi).mpr rfl)
      have fn : ∀ q, foot H (md M j) v q → (upd F p (.lst vs)) q = none := fun q fq => by
        rw [upd_ne (ne q fq)]
        exact (a2.footAt fq).2.1
      cases hm : md M j with
      | val => rw [hm] at a2; exact Rp.mono up a2
      | own =>
        rw [hm] at a2 fn
        obtain ⟨p', vs', ds', b1, b2, b3, b4, b5, b6, b7⟩ := a2
        exact ⟨p', vs', ds', b1, b2, b3, b4.mono up, fn p' b1, b6, b7⟩
      | od =>
        rw [hm] at a2 fn
        obtain ⟨p', vs', ds', b1, b2, b3, b4, b5, b6, b7⟩ := a2
        exact ⟨p', vs', ds', b1, b2, b3, b4.mono up, fn p' b1, b6, b7⟩
      | bor =>
        rw [hm] at a2
        obtain ⟨p', vs', ds', b1, b2, b3, b4, b5⟩ := a2
        exact ⟨p', vs', ds', b1, b2, b3, b4.mono up, b5⟩
      | dk => rw [hm] at a2; exact a2
      | ex => rw [hm] at a2; exact ExM.mono up a2
      | oo =>
        rw [hm] at a2 fn
        obtain ⟨p', as, dss, b1, b2, b3, b4, b5, b6, b7, b8⟩ := a2
        exact ⟨p', as, dss, b1, b2, b3, b4.up up fun q hq => fn q ⟨p', b1, .inr ⟨_, b3, List.mem_map.mpr ⟨q, hq, rfl⟩⟩⟩, fn p' ⟨p', b1, .inl rfl⟩, b6, b7, b8⟩
      | ob _ _ =>
        rw [hm] at a2 fn
        obtain ⟨a', dx, C, fs, ks, b1, b2, b3, b4, b5, b6, b7, b8, b9, b10⟩ := a2
        exact ⟨a', dx, C, fs, ks, b1, b2, b3, b4, b5.up up fun q hq => fn q ⟨a', b1, .inr ⟨_, _, _, b3, .inr hq⟩⟩, ⟨fn a' ⟨a', b1, .inl rfl⟩, fn dx ⟨a', b1, .inr ⟨_, _, _, b3, .inl rfl⟩⟩⟩, b7, b8, b9, b10⟩
  · have nj : j ≠ i := fun z => by rw [z, r.val] at h5; exact h5
    have nk : k ≠ i := fun z => by rw [z, r.val] at h6; exact h6
    rw [r.same j nj] at h5
    rw [r.same k nk] at h6
    exact s.dis j k u w q hjk h1 h2 h3 h4 h5 h6
theorem SR.back (s : SR K e M' g F H σ ρ) (r : Remode M M' i) (so : True) : SR K e M g F H σ (sv ρ i none) where
  bs := s.bs
  stp := s.stp
  grel := s.grel
  low := s.low
  solo := so
  len := by rw [sv_len]; exact s.len
  slot := fun j d h => by
    rw [gt_sv] at h
    by_cases hj : j = i
    · rw [if_pos hj] at h; split at h <;> cases h
    · rw [if_neg hj] at h
      obtain ⟨v, h1, h2⟩ := s.slot j d h
      exact ⟨v, h1, by rw [← r.same j hj]; exact h2⟩
  dis := fun j k v w p hjk h1 h2 h3 h4 h5 h6 => by
    have nj : j ≠ i := fun z => by rw [gt_sv, if_pos z] at h1; split at h1 <;> exact absurd rfl h1
    have nk : k ≠ i := fun z => by rw [gt_sv, if_pos z] at h2; split at h2 <;> exact absurd rfl h2
    rw [gt_sv, if_neg nj] at h1
    rw [gt_sv, if_neg nk] at h2
    exact s.dis j k v w p hjk h1 h2 h3 h4 (by rw [r.same j nj]; exact h5) (by rw [r.same k nk]; exact h6)
end
def tFrz (i : Nat) (t : DTS) : DTS := fun d ρ => (∃ ds, gt ρ i = some (.list ds)) ∧ t { nx := fun ρ => d.nx (sv ρ i none), rt := d.rt, bk := fun ρ => d.bk (sv ρ i none), ct := fun ρ => d.ct (sv ρ i none), rs := fun x ρ => d.rs x (sv ρ i none) } ρ
/-- from here on the list of slot i stays as it is -/
theorem dss_frz {X : Cx} {e : Ent} {M M' : List Md} {st : List Stmt} {t : DTS} (i : Nat) (r : Remode M M' i) (D : DSs X e M' st t) : DSs X e M st (tFrz i t) :=
  ⟨pss_imp D.ps fun E σ H ⟨g, F, ρ, d, s, ⟨⟨ds, hd⟩, q⟩, h⟩ => by
    obtain ⟨F', s'⟩ := s.frz r hd
    exact ⟨g, F', ρ, _, s', q, ⟨fun g F H σ ρ s2 q => h.nx _ _ _ _ _ (s2.back r s.solo) q, h.rt, fun g F H σ ρ s2 q => h.bk _ _ _ _ _ (s2.back r s.solo) q, fun g F H σ ρ s2 q => h.ct _ _ _ _ _ (s2.back r s.solo) q, fun g F H σ ρ x v s2 r2 q => h.rs _ _ _ _ _ _ _ (s2.back r s.solo) r2 q⟩⟩,
   fun d d' ρ k ⟨h, q⟩ => ⟨h, D.mono { nx := fun ρ => d.nx (sv ρ i none), rt := d.rt, bk := fun ρ => d.bk (sv ρ i none), ct := fun ρ => d.ct (sv ρ i none), rs := fun x ρ => d.rs x (sv ρ i none) } { nx := fun ρ => d'.nx (sv ρ i none), rt := d'.rt, bk := fun ρ => d'.bk (sv ρ i none), ct := fun ρ => d'.ct (sv ρ i none), rs := fun x ρ => d'.rs x (sv ρ i none) } ρ ⟨fun ρ q => k.nx _ q, k.rt, fun ρ q => k.bk _ q, fun ρ q => k.ct _ q, fun x ρ q => k.rs _ _ q⟩ q⟩⟩
end PP

set_option Elab.async false
set_option linter.all false
set_option maxRecDepth 100000
set_option maxHeartbeats 4000000
namespace PP
open PySem PySem.Spec PyProof.Rows L2
/-! ### objects of ours: their fields -/
/-- what is known of a class of objects of ours -/
structure ClsF (K : PySem.W.Frag) (c : Str) (fs : List Str) : Prop where
  cl : ∀ C, OneC K c C → Cls K C
  na : ∀ C f, OneC K c C → f ∈ fs → NoAttr K C f
def dlook (f : Str) : List (D × D) → Option D
  | [] => none
  | (k, d) :: r => match k with
    | .str g => if f = g then some d else dlook f r
    | _ => dlook f r
section
variable {K : PySem.W.Frag} {g : Rg} {F H : Hp} {eH : Hp}
theorem FldOk.rd {k : Fk} {d : D} {v : V} (h : FldOk K F H g eH k d v) : RdR K g F H d v := by
  cases k with
  | val => exact .inl h
  | own =>
    obtain ⟨p, vs, ds, h1, h2, h3, h4, h5, h6, h7⟩ := h
    exact .inr (.inl ⟨p, vs, ds, h1, h2, h3, h7, h4⟩)
  | od =>
    obtain ⟨p, vs, ds, h1, h2, h3, h4, h5, h6, h7⟩ := h
    exact .inr (.inr ⟨p, vs, ds, h1, h2, h3, h7, h4⟩)
theorem FldsOk.look {f : Str} : ∀ {fks : List (Str × Fk)} {fs : List (Str × V)} {ks : List (D × D)} {d : D}, FldsOk K F H g eH fks fs ks → dlook f ks = some d → ∃ k x, fs.lookup f = some x ∧ FldOk K F H g eH k d x
  | [], fs, ks, d, h, e => by
    obtain ⟨_, rfl⟩ := h
    cases e
  | (y, k) :: r, fs, ks, d, h, e => by
    obtain ⟨x, d', fr, kr, rfl, rfl, h3, h4⟩ := h
    have e : (if f = y then some d' else dlook f kr) = some d := e
    by_cases c : f = y
    · rw [if_pos c] at e
      cases e
      exact ⟨k, x, by subst c; simp [List.lookup], h3⟩
    · rw [if_neg c] at e
      obtain ⟨k2, x2, h5, h6⟩ := FldsOk.look h4 e
      refine ⟨k2, x2, ?_, h6⟩
      have : (f == y) = false := by simpa using c
      simp only [List.lookup, this]
      exact h5
end
section
variable {X : Cx} {e : Ent} {M : List Md} {a b : Expr} {ta tb : DT} {pos p1 p2 : Pos}
/-- x.f, x an object of ours -/
def tFl (i : Nat) (f : Str) : DT := fun ρ Q => match gt ρ i with
  | some (.dict ks) => (match dlook f ks with | some d => Q d | none => False)
  | _ => False
theorem tFl_mono (i : Nat) (f : Str) : Mono (tFl i f) := fun ρ Q Q' h q => by
  unfold tFl at q ⊢
  split at q
  · split at q
    · exact h _ q
    · exact q.elim
  · exact q.elim
theorem re_fld {i : Nat} {y f : Str} {c : Str} {fks : List (Str × Fk)} (cf : ClsF X.K c (fks.map (·.1))) (hf : f ∈ fks.map (·.1)) (hN : X.N[i]? = some y) (hv : Vis X.env.scope y) (hm : md M i = .ob c fks) (hd : (y == ("__debug__" : Str)) = false := by decide) (hcd : (y == ("__classdict__" : Str)) = false := by decide)
    (hb : attributeBase (.Name y p1) f X.env (eval (.Name y p1) X.env) = eval (.Name y p1) X.env := by rfl) : RE X e M (.Attribute (.Name y p1) f pos) (tFl i f) :=
  ⟨pe_imp (pe_fld (pe_var hN hv hd hcd) hb) fun σ H Q ⟨g, F, ρ, sr, q⟩ => by
    unfold tFl at q
    split at q
    · rename_i ks hk
      split at q
      · rename_i d hd
        obtain ⟨v, h1, h2⟩ := sr.slot i _ hk
        rw [hm] at h2
        obtain ⟨a, dx, C, fs, ks2, e1, e2, h3, h4, h5, h6, h7, h8, h9, h10⟩ := h2
        subst e1
        cases e2
        have hd : dlook f ks2 = some d := hd
        obtain ⟨k, x, hl, ok⟩ := h5.look hd
        exact ⟨_, h1, a, C, dx, fs, x, rfl, h3, cf.cl C h10, cf.na C f h10 hf, hl, q F H x sr.bs.refl ok.rd⟩
      · exact q.elim
    · exact q.elim, tFl_mono i f⟩
end
/-! ### a method: what it is told of its object, what it leaves -/
def ObAt (K : PySem.W.Frag) (F H : Hp) (g : Rg) (eH : Hp) (c : Str) (fks : List (Str × Fk)) (a dx : Addr) (fs : List (Str × V)) (ks : List (D × D)) : Prop := ∃ C, H a = some (.ins C dx fs) ∧ H dx = some (.own a) ∧ FldsOk K F H g eH fks fs ks ∧ (F a = none ∧ F dx = none) ∧ (¬ g.mem a ∧ ¬ g.mem dx) ∧ (eH a = none ∧ eH dx = none) ∧ (ownA fks fs).Nodup ∧ OneC K c C
/-- the heap without an object of ours -/
def unown (H : Hp) (a dx : Addr) (as : List Addr) : Hp := fun b => if b = a ∨ b = dx ∨ b ∈ as then none else H b
theorem unown_le {H : Hp} {a dx : Addr} {as : List Addr} : Le (unown H a dx as) H := fun b o h => by
  unfold unown at h
  split at h
  · cases h
  · exact h
/-- promises of methods: the object's fields, the other arguments; the value, the object's fields then -/
abbrev KM := List (D × D) → List D → (D → List (D × D) → Prop) → Prop
def MonoKM (km : KM) : Prop := ∀ ks ds (Q Q' : D → List (D × D) → Prop), (∀ d k, Q d k → Q' d k) → km ks ds Q → km ks ds Q'
def spM (K : PySem.W.Frag) (c : Str) (fks : List (Str × Fk)) (ms : List Md) (km : KM) : Sp := fun vs H Q _ => ∃ g F a dx fs ks vr ds, vs = .ref a :: vr ∧ ObAt K F H g (unown H a dx (ownA fks fs)) c fks a dx fs ks ∧ Bs g F H ∧ ArgsOk K g F H ms ds vr ∧
  km ks ds fun d ks' => ∀ F' H' v dx' fs', Stp g F (unown H a dx (ownA fks fs)) F' H' → ObAt K F' H' g (unown H a dx (ownA fks fs)) c fks a dx' fs' ks' → Rp K F' d v → Q v H'
/-- how a method begins: its object in slot 0, ours for the while -/
theorem SR.beginM {K : PySem.W.Frag} {M ms : List Md} {N : List Str} {g : Rg} {F H : Hp} {c : Str} {fks : List (Str × Fk)} {a dx : Addr} {fs : List (Str × V)} {ks : List (D × D)} {ds : List D} {vr : List V}
    (bs : Bs g F H) (ob : ObAt K F H g (unown H a dx (ownA fks fs)) c fks a dx fs ks) (ar : ArgsOk K g F H ms ds vr) (hM : M.take (ms.length + 1) = .ob c fks :: ms) (hp : ms.all (fun m => m == .val || m == .dk) = true) (hn : ms.length + 1 ≤ N.length) (hso : soloM M = true) :
    SR K ⟨g, F, unown H a dx (ownA fks fs), F⟩ M g F H (L2.start N (.ref a :: vr)) (startD N.length (.dict ((.none, .int ((a : Nat) : Int)) :: ks) :: ds)) := by
  obtain ⟨l1, l2, f⟩ := ar.at
  have hmd : ∀ i m, (.ob c fks :: ms)[i]? = some m → md M i = m := fun i m h => by
    unfold md
    rw [List.getD_eq_getElem?_getD]
    have : M[i]? = some m := by
      rw [← hM, List.getElem?_take] at h
      split at h
      · exact h
      · cases h
    rw [this]; rfl
  have m0 : md M 0 = .ob c fks := hmd 0 _ rfl
  have le0 : Le (unown H a dx (ownA fks fs)) H := unown_le
  refine ⟨bs, ⟨.refl _, bs.sub, fun _ _ h => .inl h, fun b o h _ => le0 b o h, bs.ok⟩, .inl rfl, by unfold L2.start startD; simp [l1], fun i d h => ?_, fun i j v w p hij h1 h2 h3 h4 h5 h6 => ?_, .refl _, solo_of hso⟩
  · have hd := gt_start h
    cases i with
    | zero =>
      cases hd
      obtain ⟨C, h3, h4, h5, h6, h8, h7, h9, h10⟩ := ob
      refine ⟨.ref a, by unfold L2.start; simp, ?_⟩
      rw [m0]
      exact ⟨a, dx, C, fs, ks, rfl, rfl, h3, h4, h5, h6, h7, h8, h9, h10⟩
    | succ i =>
      have hd : ds[i]? = some d := hd
      obtain ⟨v, m, h1, h2, h3⟩ := f i d hd
      refine ⟨v, ?_, ?_⟩
      · unfold L2.start
        rw [List.getElem?_append_left (by rw [List.length_map, List.length_cons]; have := (List.getElem?_eq_some_iff.mp h1).1; omega), List.getElem?_map, List.getElem?_cons_succ, h1]
        rfl
      · rw [hmd (i + 1) m (by rw [List.getElem?_cons_succ]; exact h2)]
        have hm := List.all_eq_true.mp hp m (List.mem_of_getElem? h2)
        rw [Bool.or_eq_true, beq_iff_eq, beq_iff_eq] at hm
        rcases hm with rfl | rfl
        · exact h3
        · exact h3
  · have small : ∀ i v, gt (startD N.length (PyData.dict ((.none, .int ((a : Nat) : Int)) :: ks) :: ds)) i ≠ none → foot H (md M i) v p → i = 0 := fun i v hi hf => by
      cases q : gt (startD N.length (PyData.dict ((.none, .int ((a : Nat) : Int)) :: ks) :: ds)) i with
      | none => exact absurd q hi
      | some d =>
        have hd := gt_start q
        cases i with
        | zero => rfl
        | succ i =>
          exfalso
          have hd : ds[i]? = some d := hd
          obtain ⟨v, m, h1, h2, h3⟩ := f i d hd
          rw [hmd (i + 1) m (by rw [List.getElem?_cons_succ]; exact h2)] at hf
          have hm := List.all_eq_true.mp hp m (List.mem_of_getElem? h2)
          rw [Bool.or_eq_true, beq_iff_eq, beq_iff_eq] at hm
          rcases hm with rfl | rfl
          · exact hf
          · exact hf
    exact hij ((small i v h1 h5).trans (small j w h2 h6).symm)
theorem FldOk.re {K : PySem.W.Frag} {g g' : Rg} {F H eH : Hp} (m : ∀ b, ¬ g.mem b → ¬ g'.mem b) : ∀ {k : Fk} {d : D} {v : V}, FldOk K F H g eH k d v → FldOk K F H g' eH k d v
  | .val, _, _, h => h
  | .own, _, _, ⟨p, vs, ds, h1, h2, h3, h4, h5, h6, h7⟩ => ⟨p, vs, ds, h1, h2, h3, h4, h5, h6, m _ h7⟩
  | .od, _, _, ⟨p, vs, ds, h1, h2, h3, h4, h5, h6, h7⟩ => ⟨p, vs, ds, h1, h2, h3, h4, h5, h6, m _ h7⟩
theorem FldsOk.re {K : PySem.W.Frag} {g g' : Rg} {F H eH : Hp} (m : ∀ b, ¬ g.mem b → ¬ g'.mem b) : ∀ {fks : List (Str × Fk)} {fs : List (Str × V)} {ks : List (D × D)}, FldsOk K F H g eH fks fs ks → FldsOk K F H g' eH fks fs ks
  | [], _, _, h => h
  | _ :: _, _, _, ⟨x, d, fr, kr, h1, h2, h3, h4⟩ => ⟨x, d, fr, kr, h1, h2, h3.re m, FldsOk.re m h4⟩
section
variable {P : Program} {w : World} {K : PySem.W.Frag} {mg : Str → Option Value} {base : Heap}
/-- what stands in slot 0 as a method ends -/
theorem SR.endM {e : Ent} {M : List Md} {g : Rg} {F H : Hp} {σ : L2.St} {ρ : En} {c : Str} {fks : List (Str × Fk)} {a : Addr} {ks : List (D × D)} (s : SR K e M g F H σ ρ) (m0 : md M 0 = .ob c fks) (h : gt ρ 0 = some (.dict ((.none, .int ((a : Nat) : Int)) :: ks))) :
    ∃ dx fs, ObAt K F H e.g e.H c fks a dx fs ks := by
  obtain ⟨v, h1, h2⟩ := s.slot 0 _ h
  rw [m0] at h2
  obtain ⟨a', dx, C, fs, ks2, e1, e2, h3, h4, h5, h6, h7, h8, h9, h10⟩ := h2
  have e3 : ((.none, .int ((a : Nat) : Int)) : D × D) :: ks = (.none, .int ((a' : Nat) : Int)) :: ks2 := PyData.dict.inj e2
  obtain ⟨e4, rfl⟩ := List.cons.inj e3
  have e5 : ((a : Nat) : Int) = ((a' : Nat) : Int) := PyData.int.inj (Prod.mk.inj e4).2
  obtain rfl : a = a' := Int.ofNat.inj e5
  have m : ∀ b, ¬ g.mem b → ¬ e.g.mem b := fun b hb => by
    rcases s.grel with q | ⟨q, _⟩
    · rw [← q]; exact hb
    · rw [q]; exact fun z => z
  exact ⟨dx, fs, C, h3, h4, h5.re m, h6, ⟨m _ h8.1, m _ h8.2⟩, h7, h9, h10⟩
theorem fnM {x qual : Str} {st : Stmt} {f : Addr} {fd : FuncData} {N ps : List Str} {M ms : List Md} {c : Str} {fks : List (Str × Fk)} {k : Nat} {km : KM} {t : DTS} (F : Fun K x qual st f fd) (S : FnScope N ps (defScope st)) (hM : M.take (ms.length + 1) = .ob c fks :: ms)
    (hp : ms.all (fun m => m == .val || m == .dk) = true) (hms : ms.length + 1 = ps.length) (hn : ps.length ≤ N.length) (hso : soloM M = true)
    (bd : ∀ (cdv : Value) (A : Around) (outer : List Env) (s : Shared) (H : Hp) (E : XK) (e : Ent), Room k (A.deeper (envOfC qual (defScope st) s.heap.objs.size f cdv)) → (A.deeper (envOfC qual (defScope st) s.heap.objs.size f cdv)).guards = some [] →
      DSs (cxOf CX0 P w K mg base N qual (defScope st) f cdv A outer s H E).nox e M (defBody st) t)
    (sp : ∀ (a : Addr) ks ds (Q : D → List (D × D) → Prop), km ks ds Q → t { nx := fun ρ => ∃ ks', gt ρ 0 = some (.dict ((.none, .int ((a : Nat) : Int)) :: ks')) ∧ Q .none ks', rt := fun _ => False, rs := fun d ρ => ∃ ks', gt ρ 0 = some (.dict ((.none, .int ((a : Nat) : Int)) :: ks')) ∧ Q d ks' }
      (startD N.length (.dict ((.none, .int ((a : Nat) : Int)) :: ks) :: ds))) : FnG P w K mg base CX0 (k + 1) f fd ps (spM K c fks ms km) := by
  have m0 : md M 0 = .ob c fks := by
    have : M[0]? = some (.ob c fks) := by
      have h := congrArg (·[0]?) hM
      simp only [List.getElem?_cons_zero] at h
      rw [List.getElem?_take] at h
      split at h
      · exact h
      · cases h
    unfold md
    rw [List.getD_eq_getElem?_getD, this]; rfl
  refine fnG_of F S (fun vs H Q E ⟨g, F, a, dx, fs, ks, vr, ds, e, _, _, ar, _⟩ => ?_) fun cdv A outer s H vs Q E hr hg h => ?_
  · rw [e, List.length_cons, ar.len, hms]
  · obtain ⟨g, F0, a, dx, fs, ks, vr, ds, rfl, ob, bs, ar, q⟩ := h
    have D := bd cdv A outer s H E ⟨g, F0, unown H a dx (ownA fks fs), F0⟩ hr hg
    refine ⟨_, D.ps.nox, g, F0, _, _, SR.beginM bs ob ar hM hp (by omega) hso, sp a ks ds _ q, ?_⟩
    refine ⟨fun g' F' H' σ' ρ' s' ⟨ks', hk, q'⟩ => ?_, fun _ _ _ _ _ _ z => z.elim, fun _ _ _ _ _ _ z => z.elim, fun _ _ _ _ _ _ z => z.elim, fun g' F' H' σ' ρ' x v s' r ⟨ks', hk, q'⟩ => ?_⟩
    · obtain ⟨dx', fs', o⟩ := s'.endM m0 hk
      exact q' F' H' .non dx' fs' s'.stp o rfl
    · obtain ⟨dx', fs', o⟩ := s'.endM m0 hk
      exact q' F' H' v dx' fs' s'.stp o r
end
end PP

set_option Elab.async false
set_option linter.all false
set_option maxRecDepth 100000
set_option maxHeartbeats 4000000
namespace PP
open PySem PySem.Spec PyProof.Rows L2
/-! ### an object of ours changes -/
section
variable {K : PySem.W.Frag} {e : Ent} {M : List Md} {g : Rg} {F H : Hp} {σ : L2.St} {ρ : En}
theorem SR.obj {F' H' : Hp} (s : SR K e M g F H σ ρ) (t : Stp g F H F' H') {i : Nat} {d' : D} {H2 : Hp} {v : V} (hi : gt ρ i ≠ none) (hσ : σ[i]? = some (some v))
    (ag : ∀ b o, H' b = some o → ¬ foot H (md M i) v b → H2 b = some o) (ok : SlotOk K e g F' H2 (md M i) d' v) (hb : ∀ q, foot H2 (md M i) v q → foot H (md M i) v q ∨ H q = none) : SR K e M g F' H2 σ (sv ρ i (some d')) := by
  obtain ⟨d0, e0, k0⟩ := s.slotAt hi hσ
  have s' := s.step t
  have fa := fun {p} (h : foot H (md M i) v p) => k0.footAt h
  have fF : ∀ {p}, foot H (md M i) v p → F' p = none := fun {p} h => by
    obtain ⟨⟨o, ho⟩, f, _, _⟩ := fa h
    exact t.no ho f
  have nm : ∀ b, g.mem b → ¬ foot H (md M i) v b := fun b hb hf => (fa hf).2.2.2 hb
  have hok : g.ok H2 := g.loc _ _ (fun b hb => by
    cases q : H' b with
    | none => exact absurd q (g.dom _ s'.bs.ok b hb)
    | some o => exact ag b o q (nm b hb)) s'.bs.ok
  have sub : Le F' H2 := fun b o h => ag b o (s'.bs.sub b o h) fun hf => by rw [fF hf] at h; cases h
  have off : ∀ j u q, j ≠ i → gt ρ j ≠ none → σ[j]? = some (some u) → foot H (md M j) u q → ¬ foot H (md M i) v q := fun j u q hj gj hu hf z => s.dis j i u v q hj gj hi hu hσ hf z
  have bk0 : ∀ j u q, gt ρ j ≠ none → σ[j]? = some (some u) → foot H' (md M j) u q → foot H (md M j) u q := fun j u q gj hu hf => by
    obtain ⟨d1, _, k1⟩ := s.slotAt gj hu
    exact k1.footBack (fun a o' _ ha _ hm _ _ => t.keep a o' ha hm) hf
  have bk : ∀ j u q, j ≠ i → gt ρ j ≠ none → σ[j]? = some (some u) → foot H2 (md M j) u q → foot H (md M j) u q := fun j u q hj gj hu hf => by
    obtain ⟨d1, _, k1⟩ := s'.slotAt gj hu
    exact bk0 j u q gj hu (k1.footBack (fun a o' _ ha _ _ _ fa => ag a o' ha (off j u a hj gj hu (bk0 j u a gj hu fa))) hf)
  refine ⟨⟨sub, hok, s'.bs.out⟩, ⟨s'.stp.mono, sub, s'.stp.new, fun b o h m => ag b o (s'.stp.keep b o h m) (fun hf => by rw [(fa hf).2.2.1] at h; cases h), ?_⟩, s.grel, by rw [sv_len]; exact s.len, fun j d h => ?_, fun j k u w q hjk h1 h2 h3 h4 h5 h6 => ?_, s'.low, s.solo⟩
  · rcases s.grel with q | ⟨q, _⟩
    · rw [← q]; exact hok
    · rw [q]; trivial
  · rw [gt_sv] at h
    by_cases ej : j = i
    · subst ej
      rw [if_pos rfl] at h
      split at h
      · cases h; exact ⟨v, hσ, ok⟩
      · cases h
    · rw [if_neg ej] at h
      obtain ⟨u, h1, h2⟩ := s'.slot j d h
      have gj : gt ρ j ≠ none := by rw [h]; simp
      exact ⟨u, h1, h2.off fun q o fq hq => ag q o hq (off j u q ej gj h1 (bk0 j u q gj h1 fq))⟩
  · have g1 : gt ρ j ≠ none := by
      rw [gt_sv] at h1
      split at h1
      · rename_i z; rw [z]; exact hi
      · exact h1
    have g2 : gt ρ k ≠ none := by
      rw [gt_sv] at h2
      split at h2
      · rename_i z; rw [z]; exact hi
      · exact h2
    have c : ∀ a u, gt ρ a ≠ none → σ[a]? = some (some u) → foot H2 (md M a) u q → foot H (md M a) u q ∨ (a = i ∧ H q = none) := fun a u ga ha hf => by
      by_cases ea : a = i
      · subst ea
        rw [hσ] at ha
        cases ha
        rcases hb q hf with z | z
        · exact .inl z
        · exact .inr ⟨rfl, z⟩
      · exact .inl (bk a u q ea ga ha hf)
    have there : ∀ a u, gt ρ a ≠ none → σ[a]? = some (some u) → foot H (md M a) u q → H q ≠ none := fun a u ga ha hf => by
      obtain ⟨d1, _, k1⟩ := s.slotAt ga ha
      obtain ⟨⟨o, ho⟩, _⟩ := k1.footAt hf
      rw [ho]; simp
    rcases c j u g1 h3 h5 with z1 | ⟨e1, n1⟩
    · rcases c k w g2 h4 h6 with z2 | ⟨e2, n2⟩
      · exact s.dis j k u w q hjk g1 g2 h3 h4 z1 z2
      · exact there j u g1 h3 z1 n2
    · rcases c k w g2 h4 h6 with z2 | ⟨e2, n2⟩
      · exact there k w g2 h4 z2 n1
      · exact hjk (e1.trans e2.symm)
end
def dset (f : Str) (d : D) : List (D × D) → List (D × D)
  | [] => []
  | (k, x) :: r => match k with
    | .str g => if g = f then (.str g, d) :: r else (.str g, x) :: dset f d r
    | _ => (k, x) :: dset f d r
def fkind (f : Str) : List (Str × Fk) → Option Fk
  | [] => none
  | (g, k) :: r => if g = f then some k else fkind f r
section
variable {K : PySem.W.Frag} {g : Rg} {F H H2 : Hp} {eH : Hp}
/-- fields stay where their lists stay -/
theorem FldOk.stay (h : ∀ p vs, H p = some (.lst vs) → H2 p = some (.lst vs)) (h' : ∀ p vs, H p = some (.dK vs) → H2 p = some (.dK vs)) : ∀ {k : Fk} {d : D} {v : V}, FldOk K F H g eH k d v → FldOk K F H2 g eH k d v
  | .val, _, _, q => q
  | .own, _, _, ⟨p, vs, ds, h1, h2, h3, h4, h5, h6, h7⟩ => ⟨p, vs, ds, h1, h2, h _ _ h3, h4, h5, h6, h7⟩
  | .od, _, _, ⟨p, vs, ds, h1, h2, h3, h4, h5, h6, h7⟩ => ⟨p, vs, ds, h1, h2, h' _ _ h3, h4, h5, h6, h7⟩
theorem FldsOk.stay (h : ∀ p vs, H p = some (.lst vs) → H2 p = some (.lst vs)) (h' : ∀ p vs, H p = some (.dK vs) → H2 p = some (.dK vs)) : ∀ {fks : List (Str × Fk)} {fs : List (Str × V)} {ks : List (D × D)}, FldsOk K F H g eH fks fs ks → FldsOk K F H2 g eH fks fs ks
  | [], _, _, q => q
  | _ :: _, _, _, ⟨x, d, fr, kr, h1, h2, h3, h4⟩ => ⟨x, d, fr, kr, h1, h2, h3.stay h h', FldsOk.stay h h' h4⟩
theorem FldsOk.put {f : Str} {k : Fk} {d : D} {v : V} (ok : FldOk K F H g eH k d v) : ∀ {fks : List (Str × Fk)} {fs : List (Str × V)} {ks : List (D × D)}, fkind f fks = some k → FldsOk K F H g eH fks fs ks → FldsOk K F H g eH fks (putF f v fs) (dset f d ks)
  | [], _, _, e, _ => by cases e
  | (y, k2) :: r, fs, ks, e, h => by
    obtain ⟨x, d2, fr, kr, rfl, rfl, h3, h4⟩ := h
    have e : (if y = f then some k2 else fkind f r) = some k := e
    by_cases c : y = f
    · rw [if_pos c] at e
      cases e
      refine ⟨v, d, fr, kr, ?_, ?_, ok, h4⟩
      · show (if y = f then (y, v) :: fr else (y, x) :: putF f v fr) = _
        rw [if_pos c]
      · show (if y = f then (.str y, d) :: kr else (.str y, d2) :: dset f d kr) = _
        rw [if_pos c]
    · rw [if_neg c] at e
      refine ⟨x, d2, putF f v fr, dset f d kr, ?_, ?_, h3, FldsOk.put ok e h4⟩
      · show (if y = f then (y, v) :: fr else (y, x) :: putF f v fr) = _
        rw [if_neg c]
      · show (if y = f then (.str y, d) :: kr else (.str y, d2) :: dset f d kr) = _
        rw [if_neg c]
theorem FldsOk.len : ∀ {fks : List (Str × Fk)} {fs : List (Str × V)} {ks : List (D × D)}, FldsOk K F H g eH fks fs ks → fs.length = fks.length
  | [], _, _, h => by rw [h.1]; rfl
  | _ :: _, _, _, ⟨x, d, fr, kr, h1, h2, h3, h4⟩ => by rw [h1, List.length_cons, List.length_cons, FldsOk.len h4]
/-- what is ours of the fields is there -/
theorem FldsOk.ours : ∀ {fks : List (Str × Fk)} {fs : List (Str × V)} {ks : List (D × D)}, FldsOk K F H g eH fks fs ks → ∀ p ∈ ownA fks fs, (∃ vs, H p = some (.lst vs)) ∨ ∃ ps, H p = some (.dK ps)
  | [], fs, _, h, p, hp => by
    obtain ⟨rfl, _⟩ := h
    cases hp
  | (y, k) :: r, fs, ks, h, p, hp => by
    obtain ⟨x, d2, fr, kr, rfl, rfl, h3, h4⟩ := h
    rw [ownA_cons] at hp
    rcases List.mem_append.mp hp with hp | hp
    · cases k with
      | val => cases hp
      | own =>
        obtain ⟨q, vs, ds, rfl, _, h5, _⟩ := h3
        rw [List.mem_singleton.mp hp]
        exact .inl ⟨vs, h5⟩
      | od =>
        obtain ⟨q, vs, ds, rfl, _, h5, _⟩ := h3
        rw [List.mem_singleton.mp hp]
        exact .inr ⟨vs, h5⟩
    · exact FldsOk.ours h4 p hp
/-- a new list in a field of ours -/
theorem ownA_put {f : Str} {q : Addr} : ∀ {fks : List (Str × Fk)} {fs : List (Str × V)}, q ∉ ownA fks fs → (ownA fks fs).Nodup → (ownA fks (putF f (.ref q) fs)).Nodup ∧ ∀ p ∈ ownA fks (putF f (.ref q) fs), p = q ∨ p ∈ ownA fks fs
  | [], fs, _, _ => by
    have e : ∀ l, ownA [] l = [] := fun l => by cases l <;> rfl
    rw [e]
    exact ⟨List.nodup_nil, fun p h => by cases h⟩
  | (y, k) :: r, [], hq, hn => by
    have e : ownA r ([] : List (Str × V)) = [] := by cases r <;> rfl
    show (ownA ((y, k) :: r) [(f, V.ref q)]).Nodup ∧ _
    have e2 : ownA ((y, k) :: r) [(f, V.ref q)] = own1 k (V.ref q) ++ ownA r [] := ownA_cons _ _ _ _ _ _
    show (ownA ((y, k) :: r) [(f, V.ref q)]).Nodup ∧ ∀ p ∈ ownA ((y, k) :: r) [(f, V.ref q)], p = q ∨ p ∈ ownA ((y, k) :: r) []
    rw [e2, e]
    cases k <;> simp [own1]
  | (y, k) :: r, (z, x) :: fr, hq, hn => by
    have e1 : ∀ x', ownA ((y, k) :: r) ((z, x') :: fr) = own1 k x' ++ ownA r fr := fun _ => ownA_cons _ _ _ _ _ _
    rw [e1] at hq hn
    have q2 : q ∉ ownA r fr := fun h => hq (List.mem_append_right _ h)
    have n2 : (ownA r fr).Nodup := (List.nodup_append.mp hn).2.1
    by_cases c : z = f
    · have e : putF f (V.ref q) ((z, x) :: fr) = (z, .ref q) :: fr := by
        show (if z = f then (z, V.ref q) :: fr else _) = _
        rw [if_pos c]
      rw [e, e1, e1]
      cases k with
      | val => exact ⟨by simpa [own1] using n2, fun p h => .inr (by simpa [own1] using h)⟩
      | own =>
        refine ⟨List.nodup_append.mpr ⟨by simp [own1], n2, fun a ha b hb z => ?_⟩, fun p h => ?_⟩
        · rw [List.mem_singleton.mp ha] at z; exact q2 (z ▸ hb)
        · rcases List.mem_append.mp h with h | h
          · exact .inl (List.mem_singleton.mp h)
          · exact .inr (List.mem_append_right _ h)
      | od =>
        refine ⟨List.nodup_append.mpr ⟨by simp [own1], n2, fun a ha b hb z => ?_⟩, fun p h => ?_⟩
        · rw [List.mem_singleton.mp ha] at z; exact q2 (z ▸ hb)
        · rcases List.mem_append.mp h with h | h
          · exact .inl (List.mem_singleton.mp h)
          · exact .inr (List.mem_append_right _ h)
    · have e : putF f (V.ref q) ((z, x) :: fr) = (z, x) :: putF f (.ref q) fr := by
        show (if z = f then (z, V.ref q) :: fr else _) = _
        rw [if_neg c]
      obtain ⟨i1, i2⟩ := ownA_put (f := f) q2 n2
      have e3 : ownA ((y, k) :: r) ((z, x) :: putF f (.ref q) fr) = own1 k x ++ ownA r (putF f (.ref q) fr) := ownA_cons _ _ _ _ _ _
      rw [e, e3, e1]
      refine ⟨List.nodup_append.mpr ⟨(List.nodup_append.mp hn).1, i1, fun a ha b hb z => ?_⟩, fun p h => ?_⟩
      · rcases i2 b hb with w | w
        · exact hq (List.mem_append_left _ (w ▸ z ▸ ha))
        · exact (List.nodup_append.mp hn).2.2 a ha b w z
      · rcases List.mem_append.mp h with h | h
        · exact .inr (List.mem_append_left _ h)
        · rcases i2 p h with w | w
          · exact .inl w
          · exact .inr (List.mem_append_right _ w)
end
/-! ### x.f = e -/
section
variable {X : Cx} {e : Ent} {M : List Md} {a : Expr} {tF : DA} {ta : DT} {pos p1 p2 : Pos}
def tFset (i : Nat) (f : Str) (t : DT) : DTS := fun d ρ => t ρ fun x => match gt ρ i with
  | some (.dict (hd :: ks)) => d.nx (sv ρ i (some (.dict (hd :: dset f x ks))))
  | _ => False
theorem tFset_mono {i : Nat} {f : Str} {t : DT} (h : Mono t) : MonoS (tFset i f t) := fun d d' ρ k q => h ρ _ _ (fun x q => by
  split at q
  · exact k.nx _ q
  · exact q.elim) q
/-- a new list of ours into a field -/
theorem ds_fldSet (i : Nat) {y f : Str} {c : Str} {fks : List (Str × Fk)} (cf : ClsF X.K c (fks.map (·.1))) (ha : FE X e M a tF) (hf : f ∈ fks.map (·.1) := by decide) (hk : fkind f fks = some .own := by rfl) (hl : fks.length < 1000 := by decide) (hN : X.N[i]? = some y := by rfl)
    (hv : Vis X.env.scope y := by first | exact Or.inl rfl | exact Or.inr (Or.inl rfl) | exact Or.inr (Or.inr rfl)) (hm : md M i = .ob c fks := by rfl) (hd : (y == ("__debug__" : Str)) = false := by decide) (hcd : (y == ("__classdict__" : Str)) = false := by decide)
    (hs : swapsWith a (some (.Attribute (.Name y p1) f p2)) pos.line X.env = pure false := by rfl) : DS X e M (.Assign [.Attribute (.Name y p1) f p2] a pos) (tFset i f (tFz tF)) :=
  ⟨ps_imp (ps_fld (pe_var hN hv hd hcd) ha.pe hs) fun E σ H ⟨g, F, ρ, d, s, q, h⟩ => ⟨g, F, ρ, s, ha.mono ρ _ _ (fun xs hx F' H' p vs t hp hfp hh r => by
    have hx : (match gt ρ i with
      | some (.dict (hd :: ks)) => d.nx (sv ρ i (some (.dict (hd :: dset f (.list xs) ks))))
      | _ => False) := hx
    split at hx
    · rename_i hd0 ks hk2
      obtain ⟨v, h1, h2⟩ := s.slot i _ hk2
      rw [hm] at h2
      obtain ⟨b, dx, C, fs, ks2, e1, e2, h3, h4, h5, h6, h7, h8, h9, h10⟩ := h2
      subst e1
      obtain ⟨rfl, rfl⟩ := List.cons.inj (PyData.dict.inj e2)
      have s' := s.step t
      have h3' := t.keep _ _ h3 h8.1
      have h4' := t.keep _ _ h4 h8.2
      have n1 := t.no h3 h6.1
      have n2 := t.no h4 h6.2
      have pb : p ≠ b := fun z => by rw [z, h3] at hp; cases hp
      have db : dx ≠ b := fun z => by rw [z, h3] at h4; cases h4
      have pn : p ∉ ownA fks fs := fun z => by
        rcases h5.ours p z with ⟨_, w⟩ | ⟨_, w⟩ <;> rw [hp] at w <;> cases w
      have gi : gt ρ i ≠ none := by rw [hk2]; simp
      refine ⟨_, h1, b, C, dx, fs, rfl, h3', cf.cl C h10, cf.na C f h10 hf, by rw [h5.len]; exact hl, h.nx g F' _ σ _ (s.obj t gi h1 (fun x o hx hn => ?_) ?_ fun q hq => ?_) hx⟩
      · have : x ≠ b := fun z => hn (by rw [hm]; exact ⟨b, rfl, .inl z⟩)
        rw [upd_ne this]; exact hx
      · rw [hm]
        have st : ∀ x vs, H' x = some (.lst vs) → (upd H' b (.ins C dx (putF f (.ref p) fs))) x = some (.lst vs) := fun x vs hx => by
          rw [upd_ne fun z => by rw [z, h3'] at hx; cases hx]; exact hx
        have st2 : ∀ x vs, H' x = some (.dK vs) → (upd H' b (.ins C dx (putF f (.ref p) fs))) x = some (.dK vs) := fun x vs hx => by
          rw [upd_ne fun z => by rw [z, h3'] at hx; cases hx]; exact hx
        have okp : FldOk X.K F' (upd H' b (.ins C dx (putF f (.ref p) fs))) g e.H .own (.list xs) (.ref p) := ⟨p, vs, xs, rfl, rfl, st _ _ hh, r, hfp, s.old hp, s.nmem hp⟩
        exact ⟨b, dx, C, putF f (.ref p) fs, dset f (.list xs) ks, rfl, rfl, upd_same, by rw [upd_ne db]; exact h4', FldsOk.put okp hk ((h5.step t).stay st st2), ⟨n1, n2⟩, h7, h8, (ownA_put pn h9).1, h10⟩
      · rw [hm] at hq ⊢
        obtain ⟨b', eb, hq⟩ := hq
        cases eb
        rcases hq with hq | ⟨C', dx', fs', hv, hq⟩
        · exact .inl ⟨b, rfl, .inl hq⟩
        · rw [upd_same] at hv
          cases hv
          rcases hq with hq | hq
          · exact .inl ⟨b, rfl, .inr ⟨_, _, _, h3, .inl hq⟩⟩
          · rcases (ownA_put pn h9).2 q hq with hq | hq
            · rw [hq]; exact .inr hp
            · exact .inl ⟨b, rfl, .inr ⟨_, _, _, h3, .inr hq⟩⟩
    · exact hx.elim) q⟩, tFset_mono (fun ρ Q Q' f q => ha.mono ρ _ _ (fun _ q => f _ q) q)⟩
end
end PP

set_option Elab.async false
set_option linter.all false
set_option maxRecDepth 100000
set_option maxHeartbeats 4000000
namespace PP
open PySem PySem.Spec PyProof.Rows L2
/-! ### a list in a field changes -/
section
variable {K : PySem.W.Frag} {g : Rg} {F H H2 : Hp} {eH : Hp}
theorem FldOk.stayN {p : Addr} (h : ∀ q vs, q ≠ p → H q = some (.lst vs) → H2 q = some (.lst vs)) (h' : ∀ q vs, q ≠ p → H q = some (.dK vs) → H2 q = some (.dK vs)) : ∀ {k : Fk} {d : D} {v : V}, p ∉ own1 k v → FldOk K F H g eH k d v → FldOk K F H2 g eH k d v
  | .val, _, _, _, q => q
  | .own, _, _, n, ⟨q, vs, ds, h1, h2, h3, h4, h5, h6, h7⟩ => ⟨q, vs, ds, h1, h2, h _ _ (fun z => n (by subst h1; subst z; simp [own1])) h3, h4, h5, h6, h7⟩
  | .od, _, _, n, ⟨q, vs, ds, h1, h2, h3, h4, h5, h6, h7⟩ => ⟨q, vs, ds, h1, h2, h' _ _ (fun z => n (by subst h1; subst z; simp [own1])) h3, h4, h5, h6, h7⟩
theorem FldsOk.stayN {p : Addr} (h : ∀ q vs, q ≠ p → H q = some (.lst vs) → H2 q = some (.lst vs)) (h' : ∀ q vs, q ≠ p → H q = some (.dK vs) → H2 q = some (.dK vs)) : ∀ {fks : List (Str × Fk)} {fs : List (Str × V)} {ks : List (D × D)}, p ∉ ownA fks fs → FldsOk K F H g eH fks fs ks → FldsOk K F H2 g eH fks fs ks
  | [], _, _, _, q => q
  | (y, k) :: r, _, _, n, ⟨x, d, fr, kr, h1, h2, h3, h4⟩ => by
    subst h1
    rw [ownA_cons] at n
    exact ⟨x, d, fr, kr, rfl, h2, h3.stayN h h' (fun z => n (List.mem_append_left _ z)), FldsOk.stayN h h' (fun z => n (List.mem_append_right _ z)) h4⟩
theorem look_ne {f y : Str} {x : V} {fr : List (Str × V)} (h : ¬ y = f) : List.lookup f ((y, x) :: fr) = fr.lookup f := by
  have : (f == y) = false := by simpa using fun z : f = y => h z.symm
  simp only [List.lookup, this]
theorem look_eq {f : Str} {x : V} {fr : List (Str × V)} : List.lookup f ((f, x) :: fr) = some x := by simp [List.lookup]
theorem FldsOk.at {f : Str} {k : Fk} : ∀ {fks : List (Str × Fk)} {fs : List (Str × V)} {ks : List (D × D)}, fkind f fks = some k → FldsOk K F H g eH fks fs ks → ∃ x d, fs.lookup f = some x ∧ dlook f ks = some d ∧ FldOk K F H g eH k d x ∧ ∀ p ∈ own1 k x, p ∈ ownA fks fs
  | [], _, _, e, _ => by cases e
  | (y, k2) :: r, fs, ks, e, h => by
    obtain ⟨x, d, fr, kr, rfl, rfl, h3, h4⟩ := h
    have e : (if y = f then some k2 else fkind f r) = some k := e
    by_cases c : y = f
    · rw [if_pos c] at e
      cases e
      subst c
      refine ⟨x, d, look_eq, ?_, h3, fun p hp => by rw [ownA_cons]; exact List.mem_append_left _ hp⟩
      show (if y = y then some d else dlook y kr) = some d
      rw [if_pos rfl]
    · rw [if_neg c] at e
      obtain ⟨x2, d2, q1, q2, q3, q4⟩ := FldsOk.at e h4
      refine ⟨x2, d2, by rw [look_ne c]; exact q1, ?_, q3, fun p hp => by rw [ownA_cons]; exact List.mem_append_right _ (q4 p hp)⟩
      show (if f = y then some d else dlook f kr) = some d2
      rw [if_neg (fun z => c z.symm)]
      exact q2
theorem FldsOk.poke {f : Str} {p : Addr} {d' : D} (h : ∀ q vs, q ≠ p → H q = some (.lst vs) → H2 q = some (.lst vs)) (h' : ∀ q vs, q ≠ p → H q = some (.dK vs) → H2 q = some (.dK vs)) (new : FldOk K F H2 g eH .own d' (.ref p)) :
    ∀ {fks : List (Str × Fk)} {fs : List (Str × V)} {ks : List (D × D)}, fkind f fks = some .own → fs.lookup f = some (.ref p) → (ownA fks fs).Nodup → FldsOk K F H g eH fks fs ks → FldsOk K F H2 g eH fks fs (dset f d' ks)
  | [], _, _, e, _, _, _ => by cases e
  | (y, k2) :: r, fs, ks, e, l, n, q => by
    obtain ⟨x, d, fr, kr, rfl, rfl, h3, h4⟩ := q
    have e : (if y = f then some k2 else fkind f r) = some .own := e
    rw [ownA_cons] at n
    by_cases c : y = f
    · rw [if_pos c] at e
      cases e
      subst c
      rw [look_eq] at l
      cases l
      refine ⟨.ref p, d', fr, kr, rfl, ?_, new, FldsOk.stayN h h' (fun z => ?_) h4⟩
      · show (if y = y then (.str y, d') :: kr else (.str y, d) :: dset y d' kr) = _
        rw [if_pos rfl]
      · exact (List.nodup_append.mp n).2.2 p (by simp [own1]) p z rfl
    · rw [if_neg c] at e
      rw [look_ne c] at l
      obtain ⟨x2, d2, q1, q2, q3, q4⟩ := FldsOk.at e h4
      rw [l] at q1
      cases q1
      have pin : p ∈ ownA r fr := q4 p (by simp [own1])
      refine ⟨x, d, fr, dset f d' kr, rfl, ?_, h3.stayN h h' (fun z => (List.nodup_append.mp n).2.2 p z p pin rfl), FldsOk.poke h h' new e l (List.nodup_append.mp n).2.1 h4⟩
      show (if y = f then (.str y, d') :: kr else (.str y, d) :: dset f d' kr) = _
      rw [if_neg c]
end
section
variable {X : Cx} {e : Ent} {M : List Md} {a : Expr} {ta : DT} {pos p1 p2 p3 spos : Pos}
/-- x.f.append(e), x.f.extend(e) -/
def tFapp (i : Nat) (f : Str) (up : List D → D → (List D → Prop) → Prop) (te : DT) : DTS := fun d ρ => match gt ρ i with
  | some (.dict (hd :: ks)) => (match dlook f ks with
    | some (.list xs) => te ρ fun y => up xs y fun zs => d.nx (sv ρ i (some (.dict (hd :: dset f (.list zs) ks))))
    | _ => False)
  | _ => False
theorem tFapp_mono {i : Nat} {f : Str} {up : List D → D → (List D → Prop) → Prop} (hu : ∀ xs y (Q Q' : List D → Prop), (∀ z, Q z → Q' z) → up xs y Q → up xs y Q') (h : Mono ta) : MonoS (tFapp i f up ta) := fun d d' ρ k q => by
  unfold tFapp at q ⊢
  split at q
  · split at q
    · exact h ρ _ _ (fun y q => hu _ _ _ _ (fun z q => k.nx _ q) q) q
    · exact q.elim
  · exact q.elim
def upApp : List D → D → (List D → Prop) → Prop := fun xs y Q => xs.length < sizeLine ∧ Q (xs ++ [y])
def upExt : List D → D → (List D → Prop) → Prop := fun xs y Q => match y with | .list ys => xs.length + ys.length ≤ sizeLine ∧ Q (xs ++ ys) | _ => False
/-- the list of a field of ours changes -/
theorem SR.pokeF {K : PySem.W.Frag} {g : Rg} {F H : Hp} {σ : L2.St} {ρ : En} (s : SR K e M g F H σ ρ) {i : Nat} {c : Str} {fks : List (Str × Fk)} {f : Str} {hd0 : D × D} {ks : List (D × D)} {xs : List D} (hm : md M i = .ob c fks) (hk : fkind f fks = some .own) (h : gt ρ i = some (.dict (hd0 :: ks))) (hl : dlook f ks = some (.list xs)) :
    ∃ b dx C fs p vs, σ[i]? = some (some (.ref b)) ∧ H b = some (.ins C dx fs) ∧ OneC K c C ∧ fs.lookup f = some (.ref p) ∧ H p = some (.lst vs) ∧ RpL K F xs vs ∧ F p = none ∧ ¬ g.mem p ∧
      ∀ (F' H' : Hp) (ws : List V) (zs : List D), Stp g F H F' H' → RpL K F' zs ws → SR K e M g F' (upd H' p (.lst ws)) σ (sv ρ i (some (.dict (hd0 :: dset f (.list zs) ks)))) := by
  obtain ⟨v, h1, h2⟩ := s.slot i _ h
  rw [hm] at h2
  obtain ⟨b, dx, C, fs, ks2, e1, e2, h3, h4, h5, h6, h7, h8, h9, h10⟩ := h2
  subst e1
  obtain ⟨rfl, rfl⟩ := List.cons.inj (PyData.dict.inj e2)
  obtain ⟨x, d, q1, q2, q3, q4⟩ := h5.at hk
  rw [hl] at q2
  cases q2
  obtain ⟨p, vs, ds, rfl, e3, k1, k2, k3, k4, k5⟩ := q3
  cases e3
  refine ⟨b, dx, C, fs, p, vs, h1, h3, h10, q1, k1, k2, k3, k5, fun F' H' ws zs t r => ?_⟩
  have s' := s.step t
  have pb : b ≠ p := fun z => by rw [z, k1] at h3; cases h3
  have pd : dx ≠ p := fun z => by rw [z, k1] at h4; cases h4
  have pF := t.no k1 k3
  have gi : gt ρ i ≠ none := by rw [h]; simp
  have pin : p ∈ ownA fks fs := q4 p (by simp [own1])
  have h3' := t.keep _ _ h3 h8.1
  refine s.obj t gi h1 (fun x o hx hn => ?_) ?_ fun q hq => ?_
  · have : x ≠ p := fun z => hn (by rw [hm]; exact ⟨b, rfl, .inr ⟨_, _, _, h3, .inr (by rw [z]; exact pin)⟩⟩)
    rw [upd_ne this]; exact hx
  · rw [hm]
    have st : ∀ q vs, q ≠ p → H' q = some (.lst vs) → (upd H' p (.lst ws)) q = some (.lst vs) := fun q vs n hx => by rw [upd_ne n]; exact hx
    have st2 : ∀ q vs, q ≠ p → H' q = some (.dK vs) → (upd H' p (.lst ws)) q = some (.dK vs) := fun q vs n hx => by rw [upd_ne n]; exact hx
    have new : FldOk K F' (upd H' p (.lst ws)) g e.H .own (.list zs) (.ref p) := ⟨p, ws, zs, rfl, rfl, upd_same, r, pF, k4, k5⟩
    exact ⟨b, dx, C, fs, dset f (.list zs) ks, rfl, rfl, by rw [upd_ne pb]; exact t.keep _ _ h3 h8.1, by rw [upd_ne pd]; exact t.keep _ _ h4 h8.2, FldsOk.poke st st2 new hk q1 h9 (h5.step t), ⟨t.no h3 h6.1, t.no h4 h6.2⟩, h7, h8, h9, h10⟩
  · rw [hm] at hq ⊢
    obtain ⟨b', eb, hq⟩ := hq
    cases eb
    refine .inl ⟨b, rfl, ?_⟩
    rcases hq with hq | ⟨C', dx', fs', hv, hq⟩
    · exact .inl hq
    · rw [upd_ne pb, h3'] at hv
      cases hv
      exact .inr ⟨_, _, _, h3, hq⟩
theorem ds_fldApp (i : Nat) {y f : Str} {c : Str} {fks : List (Str × Fk)} (cf : ClsF X.K c (fks.map (·.1))) (ha : DE X e M a ta) (hf : f ∈ fks.map (·.1) := by decide) (hk : fkind f fks = some .own := by rfl) (hN : X.N[i]? = some y := by rfl)
    (hv : Vis X.env.scope y := by first | exact Or.inl rfl | exact Or.inr (Or.inl rfl) | exact Or.inr (Or.inr rfl)) (hm : md M i = .ob c fks := by rfl) (hd : (y == ("__debug__" : Str)) = false := by decide) (hcd : (y == ("__classdict__" : Str)) = false := by decide)
    (hb : attributeBase (.Name y p1) f X.env (eval (.Name y p1) X.env) = eval (.Name y p1) X.env := by rfl)
    (h1 : starEach [a] X.env = (false, eval a X.env) :: starEach [] X.env := by rfl)
    (hE : ∀ {to : TE} {t : TA}, PE X (.Attribute (.Name y p1) f p2) to → PA X [a] t → PE X (.Call (.Attribute (.Attribute (.Name y p1) f p2) "append" p3) [a] [] pos) (tBM X.K "list" rAppend to t) := by
      intro to t h h'; exact pe_bm PySem.F.plainAttrs_list PySem.F.slot_list_append PySem.F.type_list_append mt_append h h')
    (hs : swapsWith (.Call (.Attribute (.Attribute (.Name y p1) f p2) "append" p3) [a] [] pos) none spos.line X.env = pure false := by rfl) : DS X e M (.Expr (.Call (.Attribute (.Attribute (.Name y p1) f p2) "append" p3) [a] [] pos) spos) (tFapp i f upApp ta) :=
  ⟨ps_imp (ps_expr (hE (pe_fld (pe_var hN hv hd hcd) hb) (pa_cons ha.pe pa_nil h1)) hs) fun E σ H ⟨g, F, ρ, d, s, q, h⟩ => by
    unfold tFapp at q
    split at q
    · rename_i hd0 ks hk0
      split at q
      · rename_i xs hx
        obtain ⟨b, dx, C, fs, p, vs, h1, h3, h10, q1, k1, k2, k3, k5, put⟩ := s.pokeF hm hk hk0 hx
        refine ⟨_, h1, b, C, dx, fs, .ref p, rfl, h3, cf.cl C h10, cf.na C f h10 hf, q1, .inl ⟨rfl, vs, .inl (.inl k1)⟩, g, F, ρ, s, ha.mono ρ _ _ (fun y ⟨hl, hn⟩ F' H' v t r => ?_) q⟩
        exact ⟨p, vs, v, rfl, rfl, t.keep _ _ k1 k5, by rw [k2.length]; exact hl, h.nx g F' _ σ _ (put F' H' (vs ++ [v]) (xs ++ [y]) t ((k2.mono t.mono).append (.cons r .nil))) hn⟩
      · exact q.elim
    · exact q.elim, tFapp_mono (fun _ _ _ _ f q => ⟨q.1, f _ q.2⟩) ha.mono⟩
theorem ds_fldExt (i : Nat) {y f : Str} {c : Str} {fks : List (Str × Fk)} (cf : ClsF X.K c (fks.map (·.1))) (ha : DE X e M a ta) (hf : f ∈ fks.map (·.1) := by decide) (hk : fkind f fks = some .own := by rfl) (hN : X.N[i]? = some y := by rfl)
    (hv : Vis X.env.scope y := by first | exact Or.inl rfl | exact Or.inr (Or.inl rfl) | exact Or.inr (Or.inr rfl)) (hm : md M i = .ob c fks := by rfl) (hd : (y == ("__debug__" : Str)) = false := by decide) (hcd : (y == ("__classdict__" : Str)) = false := by decide)
    (hb : attributeBase (.Name y p1) f X.env (eval (.Name y p1) X.env) = eval (.Name y p1) X.env := by rfl)
    (h1 : starEach [a] X.env = (false, eval a X.env) :: starEach [] X.env := by rfl)
    (hE : ∀ {to : TE} {t : TA}, PE X (.Attribute (.Name y p1) f p2) to → PA X [a] t → PE X (.Call (.Attribute (.Attribute (.Name y p1) f p2) "extend" p3) [a] [] pos) (tBM X.K "list" rExtend to t) := by
      intro to t h h'; exact pe_bm PySem.F.plainAttrs_list PySem.F.slot_list_extend PySem.F.type_list_extend mt_extend h h')
    (hs : swapsWith (.Call (.Attribute (.Attribute (.Name y p1) f p2) "extend" p3) [a] [] pos) none spos.line X.env = pure false := by rfl) : DS X e M (.Expr (.Call (.Attribute (.Attribute (.Name y p1) f p2) "extend" p3) [a] [] pos) spos) (tFapp i f upExt ta) :=
  ⟨ps_imp (ps_expr (hE (pe_fld (pe_var hN hv hd hcd) hb) (pa_cons ha.pe pa_nil h1)) hs) fun E σ H ⟨g, F, ρ, d, s, q, h⟩ => by
    unfold tFapp at q
    split at q
    · rename_i hd0 ks hk0
      split at q
      · rename_i xs hx
        obtain ⟨b, dx, C, fs, p, vs, h1, h3, h10, q1, k1, k2, k3, k5, put⟩ := s.pokeF hm hk hk0 hx
        refine ⟨_, h1, b, C, dx, fs, .ref p, rfl, h3, cf.cl C h10, cf.na C f h10 hf, q1, .inl ⟨rfl, vs, .inl (.inl k1)⟩, g, F, ρ, s, ha.mono ρ _ _ (fun y hy F' H' v t r => ?_) q⟩
        unfold upExt at hy
        split at hy
        · obtain ⟨b2, zs, rfl, hb2, rb⟩ := r
          exact ⟨p, b2, vs, zs, rfl, rfl, t.keep _ _ k1 k5, t.sub _ _ hb2, by rw [k2.length, rb.length]; exact hy.1, h.nx g F' _ σ _ (put F' H' (vs ++ zs) _ t ((k2.mono t.mono).append rb)) hy.2⟩
        · exact hy.elim
      · exact q.elim
    · exact q.elim, tFapp_mono (fun xs y Q Q' f q => by
      unfold upExt at q ⊢
      split at q
      · exact ⟨q.1, f _ q.2⟩
      · exact q.elim) ha.mono⟩
end
end PP

set_option Elab.async false
set_option linter.all false
set_option maxRecDepth 100000
set_option maxHeartbeats 4000000
namespace PP
open PySem PySem.Spec PyProof.Rows L2
/-! ### values that may change what stands -/
abbrev DTm := En → (D → En → Prop) → Prop
abbrev DBm := En → (Bool → En → Prop) → Prop
def MonoM {α : Type} (t : En → (α → En → Prop) → Prop) : Prop := ∀ ρ (Q Q' : α → En → Prop), (∀ d ρ', Q d ρ' → Q' d ρ') → t ρ Q → t ρ Q'
def rdEm (K : PySem.W.Frag) (e : Ent) (M : List Md) (t : DTm) : TE := fun σ H Q => ∃ g F ρ, SR K e M g F H σ ρ ∧ t ρ fun d ρ' => ∀ F' H' v, Le F F' → SR K e M g F' H' σ ρ' → Rp K F' d v → Q v H'
structure DEm (X : Cx) (e : Ent) (M : List Md) (x : Expr) (t : DTm) : Prop where
  pe : PE X x (rdEm X.K e M t)
  mono : MonoM t
section
variable {K : PySem.W.Frag} {g : Rg} {F H : Hp} {eH eH' : Hp}
theorem FldOk.reE (k : Fk) (d : D) (v : V) (h : ∀ p ∈ own1 k v, eH' p = none) (q : FldOk K F H g eH k d v) : FldOk K F H g eH' k d v := by
  cases k with
  | val => exact q
  | own =>
    obtain ⟨p, vs, ds, rfl, h2, h3, h4, h5, h6, h7⟩ := q
    exact ⟨p, vs, ds, rfl, h2, h3, h4, h5, h p (by simp [own1]), h7⟩
  | od =>
    obtain ⟨p, vs, ds, rfl, h2, h3, h4, h5, h6, h7⟩ := q
    exact ⟨p, vs, ds, rfl, h2, h3, h4, h5, h p (by simp [own1]), h7⟩
theorem FldsOk.reE : ∀ {fks : List (Str × Fk)} {fs : List (Str × V)} {ks : List (D × D)}, (∀ p ∈ ownA fks fs, eH' p = none) → FldsOk K F H g eH fks fs ks → FldsOk K F H g eH' fks fs ks
  | [], _, _, _, q => q
  | (y, k) :: r, _, _, n, ⟨x, d, fr, kr, h1, h2, h3, h4⟩ => by
    subst h1
    rw [ownA_cons] at n
    exact ⟨x, d, fr, kr, rfl, h2, h3.reE _ _ _ (fun p hp => n p (List.mem_append_left _ hp)), FldsOk.reE (fun p hp => n p (List.mem_append_right _ hp)) h4⟩
theorem FldsOk.ownE : ∀ {fks : List (Str × Fk)} {fs : List (Str × V)} {ks : List (D × D)}, FldsOk K F H g eH fks fs ks → ∀ p ∈ ownA fks fs, eH p = none ∧ ¬ g.mem p
  | [], fs, _, h, p, hp => by
    obtain ⟨rfl, _⟩ := h
    cases hp
  | (y, k) :: r, fs, ks, h, p, hp => by
    obtain ⟨x, d2, fr, kr, rfl, rfl, h3, h4⟩ := h
    rw [ownA_cons] at hp
    rcases List.mem_append.mp hp with hp | hp
    · cases k with
      | val => cases hp
      | own =>
        obtain ⟨q, vs, ds, rfl, _, _, _, _, h6, h7⟩ := h3
        rw [List.mem_singleton.mp hp]
        exact ⟨h6, h7⟩
      | od =>
        obtain ⟨q, vs, ds, rfl, _, _, _, _, h6, h7⟩ := h3
        rw [List.mem_singleton.mp hp]
        exact ⟨h6, h7⟩
    · exact FldsOk.ownE h4 p hp
theorem FldsOk.nolook {m : Str} : ∀ {fks : List (Str × Fk)} {fs : List (Str × V)} {ks : List (D × D)}, m ∉ fks.map (·.1) → FldsOk K F H g eH fks fs ks → fs.lookup m = none
  | [], fs, _, _, h => by
    obtain ⟨rfl, _⟩ := h
    rfl
  | (y, k) :: r, fs, ks, n, h => by
    obtain ⟨x, d2, fr, kr, rfl, rfl, h3, h4⟩ := h
    rw [List.map_cons, List.mem_cons] at n
    rw [look_ne (fun z => n (.inl z.symm))]
    exact FldsOk.nolook (fun z => n (.inr z)) h4
end
theorem unown_none {H : Hp} {a dx : Addr} {as : List Addr} {b : Addr} (h : unown H a dx as b = none) : (b = a ∨ b = dx ∨ b ∈ as) ∨ H b = none := by
  unfold unown at h
  split at h
  · rename_i q; exact .inl q
  · exact .inr h
theorem unown_some {H : Hp} {a dx : Addr} {as : List Addr} {b : Addr} {o : HO} (h : H b = some o) (n : ¬ (b = a ∨ b = dx ∨ b ∈ as)) : unown H a dx as b = some o := by
  unfold unown
  rw [if_neg n]
  exact h
/-- behind a method of our object -/
theorem SR.behind {K : PySem.W.Frag} {e : Ent} {M : List Md} {g : Rg} {F H F' H' : Hp} {σ : L2.St} {ρ : En} (s : SR K e M g F H σ ρ) {i : Nat} {c : Str} {fks : List (Str × Fk)} {a dx dx' : Addr} {fs fs' : List (Str × V)} {ks ks' : List (D × D)} (hm : md M i = .ob c fks) (hσ : σ[i]? = some (some (.ref a))) (gi : gt ρ i ≠ none)
    (ob : ObAt K F H g e.H c fks a dx fs ks) (t : Stp g F (unown H a dx (ownA fks fs)) F' H') (ob' : ObAt K F' H' g (unown H a dx (ownA fks fs)) c fks a dx' fs' ks') : SR K e M g F' H' σ (sv ρ i (some (.dict ((.none, .int ((a : Nat) : Int)) :: ks')))) := by
  obtain ⟨C, a3, a4, a5, a6, a8, a7, a9, a10⟩ := ob
  obtain ⟨C', b3, b4, b5, b6, b8, b7, b9, b10⟩ := ob'
  have opq : (md M i).opq = true := by rw [hm]; rfl
  have oE : ∀ b, (b = a ∨ b = dx ∨ b ∈ ownA fks fs) → e.H b = none ∧ ¬ g.mem b := fun b h => by
    rcases h with rfl | rfl | h
    · exact ⟨a7.1, a8.1⟩
    · exact ⟨a7.2, a8.2⟩
    · exact a5.ownE b h
  have uE : ∀ b, unown H a dx (ownA fks fs) b = none → e.H b = none := fun b h => by
    rcases unown_none h with q | q
    · exact (oE b q).1
    · exact s.old q
  have fi : ∀ b, (b = a ∨ b = dx ∨ b ∈ ownA fks fs) → foot H (md M i) (.ref a) b := fun b h => by
    rw [hm]
    rcases h with h | h | h
    · exact ⟨a, rfl, .inl h⟩
    · exact ⟨a, rfl, .inr ⟨_, _, _, a3, .inl h⟩⟩
    · exact ⟨a, rfl, .inr ⟨_, _, _, a3, .inr h⟩⟩
  have oth : ∀ j u q, j ≠ i → gt ρ j ≠ none → σ[j]? = some (some u) → foot H (md M j) u q → (∃ o, H q = some o ∧ H' q = some o) ∧ F' q = none ∧ unown H a dx (ownA fks fs) q ≠ none := fun j u q ej gj hu fq => by
    obtain ⟨d1, _, k1⟩ := s.slotAt gj hu
    obtain ⟨⟨o, ho⟩, f1, n1, m1⟩ := k1.footAt fq
    have nq : ¬ (q = a ∨ q = dx ∨ q ∈ ownA fks fs) := fun z => s.dis j i u _ q ej gj gi hu hσ fq (fi q z)
    have ho' := unown_some (a := a) (dx := dx) (as := ownA fks fs) ho nq
    exact ⟨⟨o, ho, t.keep q o ho' m1⟩, t.no ho' f1, by rw [ho']; simp⟩
  have bk : ∀ j u q, j ≠ i → gt ρ j ≠ none → σ[j]? = some (some u) → foot H' (md M j) u q → foot H (md M j) u q := fun j u q ej gj hu fq => by
    obtain ⟨d1, _, k1⟩ := s.slotAt gj hu
    exact k1.footBack (fun b o _ hb _ _ _ fb => by
      obtain ⟨⟨o', h1, h2⟩, _⟩ := oth j u b ej gj hu fb
      rw [hb] at h1; cases h1
      exact h2) fq
  have newf : ∀ q, foot H' (md M i) (.ref a) q → unown H a dx (ownA fks fs) q = none := fun q fq => by
    rw [hm] at fq
    obtain ⟨b', eb, hq⟩ := fq
    cases eb
    rcases hq with rfl | ⟨C2, dx2, fs2, hv, hq⟩
    · exact b7.1
    · rw [b3] at hv
      cases hv
      rcases hq with rfl | hq
      · exact b7.2
      · exact (b5.ownE q hq).1
  refine ⟨⟨t.sub, t.ok, fun b mb => ?_⟩, ⟨s.stp.mono.trans t.mono, t.sub, fun b o h => ?_, fun b o h mb => ?_, ?_⟩, s.grel, by rw [sv_len]; exact s.len, fun j d h => ?_, fun j k u w q hjk h1 h2 h3 h4 h5 h6 => ?_, s.low.trans t.mono, s.solo⟩
  · cases q : F' b with
    | none => rfl
    | some o =>
      exfalso
      rcases t.new b o q with w | w
      · rw [s.bs.out b mb] at w; cases w
      · rcases unown_none w with w | w
        · exact (oE b w).2 mb
        · exact g.dom _ s.bs.ok b mb w
  · rcases t.new b o h with w | w
    · exact s.stp.new b o w
    · exact .inr (uE b w)
  · have hH := s.stp.keep b o h mb
    have nb : ¬ (b = a ∨ b = dx ∨ b ∈ ownA fks fs) := fun z => by rw [(oE b z).1] at h; cases h
    exact t.keep b o (unown_some hH nb) (s.keepB h mb)
  · rcases s.grel with q | ⟨q, _⟩
    · rw [← q]; exact t.ok
    · rw [q]; trivial
  · rw [gt_sv] at h
    by_cases ej : j = i
    · subst ej
      rw [if_pos rfl] at h
      split at h
      · cases h
        refine ⟨.ref a, hσ, ?_⟩
        rw [hm]
        exact ⟨a, dx', C', fs', ks', rfl, rfl, b3, b4, b5.reE (fun p hp => uE p (b5.ownE p hp).1), b6, ⟨uE _ b7.1, uE _ b7.2⟩, b8, b9, b10⟩
      · cases h
    · rw [if_neg ej] at h
      obtain ⟨u, h1, h2⟩ := s.slot j d h
      have gj : gt ρ j ≠ none := by rw [h]; simp
      refine ⟨u, h1, ?_⟩
      have k1 : SlotOk K e g F H' (md M j) d u := h2.off fun q o fq ho => by
        obtain ⟨⟨o', z1, z2⟩, _⟩ := oth j u q ej gj h1 fq
        rw [ho] at z1; cases z1
        exact z2
      exact k1.upF t.mono fun q fq => (oth j u q ej gj h1 (bk j u q ej gj h1 fq)).2.1
  · have g1 : gt ρ j ≠ none := by
      rw [gt_sv] at h1
      split at h1
      · rename_i z; rw [z]; exact gi
      · exact h1
    have g2 : gt ρ k ≠ none := by
      rw [gt_sv] at h2
      split at h2
      · rename_i z; rw [z]; exact gi
      · exact h2
    by_cases ej : j = i
    · have nk : k ≠ i := fun z => hjk (ej.trans z.symm)
      subst ej
      rw [hσ] at h3; cases h3
      exact (oth k w q nk g2 h4 (bk k w q nk g2 h4 h6)).2.2 (newf q h5)
    · by_cases ek : k = i
      · subst ek
        rw [hσ] at h4; cases h4
        exact (oth j u q ej g1 h3 (bk j u q ej g1 h3 h5)).2.2 (newf q h6)
      · exact s.dis j k u w q hjk g1 g2 h3 h4 (bk j u q ej g1 h3 h5) (bk k w q ek g2 h4 h6)
/-! ### calls of methods -/
structure ClM (P : Program) (w : World) (K : PySem.W.Frag) (mg : Str → Option Value) (base : Heap) (k : Nat) (c m : Str) (fks : List (Str × Fk)) (ps : List Str) (ms : List Md) (km : KM) : Prop where
  ex : ∃ f fd, (∀ C, OneC K c C → Meth K C m f) ∧ Binds K fd ps [] ∧ FnG P w K mg base CX0 k f fd ps (spM K c fks ms km)
  mo : MonoKM km
section
variable {X : Cx} {e : Ent} {M ms : List Md} {a o : Expr} {xs : List Expr} {tr : DA} {pos p1 apos : Pos}
theorem pe_methG {k : Nat} {f : Addr} {fd : FuncData} {ps : List Str} {sp : Sp} {m : Str} {ta : TE} {t : TA} {pl : Sem Bool} (he : PE X o ta) (F : FnG X.prog X.w X.K X.mg X.base CX0 k f fd ps sp) (hr : Room k X.A) (hgd : X.A.guards = some []) (hb : Binds X.K fd ps []) (ha : PA X (a :: xs) t)
    (hst : starEach (a :: xs) X.env = (false, eval a X.env) :: starEach xs X.env := by rfl) (hpl : (backTo pos (starEach xs X.env)).any (·.1) = false := by rfl)
    (ht : eval (.Call (.Attribute o m apos) (a :: xs) [] pos) X.env = (do
      let ov ← eval o X.env
      standAt apos.atName
      let (f, first) ← holding [ov] (getMethod ov m pl)
      callWith pos f first (backTo pos (starEach (a :: xs) X.env)) (backToKw pos (keywordEach [] X.env))) := by rfl) :
    PE X (.Call (.Attribute o m apos) (a :: xs) [] pos) (fun σ H Q => ta σ H fun x H1 => ∃ b C dx fs, x = .ref b ∧ H1 b = some (.ins C dx fs) ∧ Cls X.K C ∧ Meth X.K C m f ∧ fs.lookup m = none ∧ t σ H1 fun vs H2 => sp (x :: vs) H2 Q (fun _ _ _ => False)) := by
  refine ⟨fun pins s σ H Q I h => ?_⟩
  refine PySem.W.methodCall_KW (pl := pl) (thn (he.run pins s σ H _ I h) fun u s1 ⟨x, H1, I1, rx, b, C, dx, fs, ex, ea, c, hm, l, q⟩ => ?_) ht
  subst ex
  obtain rfl : u = Value.ref b := rx
  refine getmeth_ok I1 ea c hm l ?_
  refine PySem.W.callWith_K (first := [.ref b]) (h₀ := X.base) I.ok.mod.kin hm.kp (thn (ha.run pos pins s1 σ H1 _ I1 q) fun us s2 ⟨vs, H2, I2, r, q2⟩ => ⟨I2.kIn, ?_⟩) hst hpl
  exact goG (us := .ref b :: us) (vs := .ref b :: vs) F hr hgd hb pass0 I2 (.cons rfl r) q2
def tMe (i : Nat) (km : KM) (tr : DA) : DTm := fun ρ Q => match gt ρ i with
  | some (.dict (hd :: ks)) => tr ρ fun ds => km ks ds fun d ks' => Q d (sv ρ i (some (.dict (hd :: ks'))))
  | _ => False
theorem tMe_mono {i : Nat} {km : KM} (mo : MonoKM km) (h : Mono tr) : MonoM (tMe i km tr) := fun ρ Q Q' f q => by
  unfold tMe at q ⊢
  split at q
  · exact h ρ _ _ (fun ds q => mo _ _ _ _ (fun d k q => f _ _ q) q) q
  · exact q.elim
/-- x.m(e, ..) -/
theorem me_call (i : Nat) {k : Nat} {y m : Str} {c : Str} {fks : List (Str × Fk)} {ps : List Str} {km : KM} {pl : Sem Bool} (cm : ClM X.prog X.w X.K X.mg X.base k c m fks ps ms km) (cf : ClsF X.K c (fks.map (·.1))) (hr : Room k X.A) (hgd : X.A.guards = some []) (ha : GA X e M ms (a :: xs) tr) (hn : m ∉ fks.map (·.1) := by decide) (hN : X.N[i]? = some y := by rfl)
    (hv : Vis X.env.scope y := by first | exact Or.inl rfl | exact Or.inr (Or.inl rfl) | exact Or.inr (Or.inr rfl)) (hm : md M i = .ob c fks := by rfl) (hd : (y == ("__debug__" : Str)) = false := by decide) (hcd : (y == ("__classdict__" : Str)) = false := by decide)
    (hst : starEach (a :: xs) X.env = (false, eval a X.env) :: starEach xs X.env := by rfl) (hpl : (backTo pos (starEach xs X.env)).any (·.1) = false := by rfl)
    (ht : eval (.Call (.Attribute (.Name y p1) m apos) (a :: xs) [] pos) X.env = (do
      let ov ← eval (.Name y p1) X.env
      standAt apos.atName
      let (f, first) ← holding [ov] (getMethod ov m pl)
      callWith pos f first (backTo pos (starEach (a :: xs) X.env)) (backToKw pos (keywordEach [] X.env))) := by rfl) :
    DEm X e M (.Call (.Attribute (.Name y p1) m apos) (a :: xs) [] pos) (tMe i km tr) := by
  obtain ⟨f, fd, h1, h2, h3⟩ := cm.ex
  refine ⟨pe_imp (pe_methG (pe_var hN hv hd hcd) h3 hr hgd h2 ha.pa hst hpl ht) fun σ H Q ⟨g, F, ρ, s, q⟩ => ?_, tMe_mono cm.mo ha.mono⟩
  unfold tMe at q
  split at q
  · rename_i hd0 ks hk0
    obtain ⟨v, q1, q2⟩ := s.slot i _ hk0
    rw [hm] at q2
    obtain ⟨b, dx, C, fs, ks2, e1, e2, a3, a4, a5, a6, a7, a8, a9, a10⟩ := q2
    subst e1
    obtain ⟨rfl, rfl⟩ := List.cons.inj (PyData.dict.inj e2)
    refine ⟨_, q1, b, C, dx, fs, rfl, a3, cf.cl C a10, h1 C a10, a5.nolook hn, g, F, ρ, s, ha.mono ρ _ _ (fun ds hq F1 H1 vs t ar => ?_) q⟩
    have s1 := s.step t
    have ob : ObAt X.K F1 H1 g e.H c fks b dx fs ks := ⟨C, t.keep _ _ a3 a8.1, t.keep _ _ a4 a8.2, a5.step t, ⟨t.no a3 a6.1, t.no a4 a6.2⟩, a8, a7, a9, a10⟩
    have ob0 : ObAt X.K F1 H1 g (unown H1 b dx (ownA fks fs)) c fks b dx fs ks := by
      obtain ⟨C, b3, b4, b5, b6, b8, b7, b9, b10⟩ := ob
      exact ⟨C, b3, b4, b5.reE (fun p hp => by unfold unown; rw [if_pos (.inr (.inr hp))]), b6, b8, ⟨by unfold unown; simp, by unfold unown; simp⟩, b9, b10⟩
    refine ⟨g, F1, b, dx, fs, ks, vs, ds, rfl, ob0, s1.bs, ar, cm.mo _ _ _ _ (fun d ks' hq F' H' v dx' fs' t' ob' r => ?_) hq⟩
    exact hq F' H' v (t.mono.trans t'.mono) (s1.behind hm q1 (by rw [hk0]; simp) ob t' ob') r
  · exact q.elim
end
end PP

set_option Elab.async false
set_option linter.all false
set_option maxRecDepth 100000
set_option maxHeartbeats 4000000
namespace PP
open PySem PySem.Spec PyProof.Rows L2
/-! ### tests and statements that may change what stands -/
def rdBm (K : PySem.W.Frag) (e : Ent) (M : List Md) (t : DBm) : TT := fun σ H Q => ∃ g F ρ, SR K e M g F H σ ρ ∧ t ρ fun b ρ' => ∀ F' H', Le F F' → SR K e M g F' H' σ ρ' → Q b H'
structure DCm (X : Cx) (e : Ent) (M : List Md) (x : Expr) (t : DBm) : Prop where
  pt : PT X x (rdBm X.K e M t)
  mono : MonoM t
structure DWm (X : Cx) (e : Ent) (M : List Md) (x : Expr) (t : DBm) : Prop where
  pw : PW X x (rdBm X.K e M t)
  mono : MonoM t
section
variable {X : Cx} {e : Ent} {M : List Md} {a b c x : Expr} {ta tb : DT} {tam : DTm} {tA : DB} {tAm tBm : DBm} {t u : DTS} {pos p2 : Pos}
theorem DE.m (h : DE X e M x ta) : DEm X e M x (fun ρ Q => ta ρ fun d => Q d ρ) :=
  ⟨pe_imp h.pe fun σ H Q ⟨g, F, ρ, s, q⟩ => ⟨g, F, ρ, s, h.mono ρ _ _ (fun d hd F' H' v t r => hd F' H' v t.mono (s.step t) r) q⟩, fun ρ Q Q' f q => h.mono ρ _ _ (fun d q => f _ _ q) q⟩
theorem DC.m (h : DC X e M x tA) : DCm X e M x (fun ρ Q => tA ρ fun d => Q d ρ) :=
  ⟨pt_imp h.pt fun σ H Q ⟨g, F, ρ, s, q⟩ => ⟨g, F, ρ, s, h.mono ρ _ _ (fun d hd F' H' t => hd F' H' t.mono (s.step t)) q⟩, fun ρ Q Q' f q => h.mono ρ _ _ (fun d q => f _ _ q) q⟩
theorem DWm.dc (h : DWm X e M x tAm) : DCm X e M x tAm := ⟨h.pw.pt, h.mono⟩
theorem DW.m (h : DW X e M x tA) : DWm X e M x (fun ρ Q => tA ρ fun d => Q d ρ) :=
  ⟨pw_imp h.pw fun σ H Q ⟨g, F, ρ, s, q⟩ => ⟨g, F, ρ, s, h.mono ρ _ _ (fun d hd F' H' t => hd F' H' t.mono (s.step t)) q⟩, fun ρ Q Q' f q => h.mono ρ _ _ (fun d q => f _ _ q) q⟩
/-- a != b, where a changes what stands -/
theorem mc_ne (hu : X.A.units + 64 < cLine) (ha : DEm X e M a tam) (hb : RE X e M b tb) : DCm X e M (.Compare a [.NotEq] [b] pos) (fun ρ Q => tam ρ fun x ρ' => tb ρ' fun y => kEq not x y fun d => match d with | .bool c => Q c ρ' | _ => False) :=
  ⟨pt_imp (pt_cmpR (op_neX hu) ha.pe hb.pe (nm (by decide) (by decide))) fun σ H Q ⟨g, F, ρ, s, q⟩ => ⟨g, F, ρ, s, ha.mono ρ _ _ (fun dx ρ' hx F1 H1 x l s1 rx => ⟨g, F1, ρ', s1, hb.mono _ _ _ (fun dy hy F2 H2 y t2 ry => by
    have s2 := s1.step t2
    refine says_eq (X := X) g F2 H2 dx dy x y _ _ s2.bs (.inl (rx.mono t2.mono)) ry hy fun d F' H' v hd t3 rv => ?_
    split at hd
    · exact ⟨_, rv, hd F' H' ((l.trans t2.mono).trans t3.mono) (s2.step t3)⟩
    · exact hd.elim) hx⟩) q⟩, fun ρ Q Q' f q => ha.mono ρ _ _ (fun dx ρ' q => hb.mono _ _ _ (fun dy q => kEq_mono _ _ _ _ (fun d q => by
    split at q
    · exact f _ _ q
    · exact q.elim) q) q) q⟩
theorem mw_or1 (ha : DCm X e M a tAm) : DWm X e M (.BoolOp .Or [a] pos) tAm := ⟨pw_or1 ha.pt, ha.mono⟩
theorem mw_or {rest : List Expr} (ha : DCm X e M a tAm) (hb : DWm X e M (.BoolOp .Or (b :: rest) pos) tBm) : DWm X e M (.BoolOp .Or (a :: b :: rest) pos) (fun ρ Q => tAm ρ fun k ρ' => if k = true then Q true ρ' else tBm ρ' Q) :=
  ⟨pw_imp (pw_or ha.pt hb.pw) fun σ H Q ⟨g, F, ρ, s, q⟩ => ⟨g, F, ρ, s, ha.mono ρ _ _ (fun k ρ' hk F1 H1 l s1 => by
    cases k with
    | true => exact hk F1 H1 l s1
    | false => exact ⟨g, F1, ρ', s1, hb.mono _ _ _ (fun k ρ2 hk F2 H2 l2 s2 => hk F2 H2 (l.trans l2) s2) hk⟩) q⟩, fun ρ Q Q' f q => ha.mono ρ _ _ (fun k ρ' q => by
    cases k with
    | true => exact f _ _ q
    | false => exact hb.mono _ _ _ f q) q⟩
theorem ds_ifM {xs ys : List Stmt} (hc : DCm X e M c tAm) (ha : DSs X e M xs t) (hb : DSs X e M ys u) : DS X e M (.If c xs ys pos) (fun d ρ => tAm ρ fun b ρ' => if b = true then t d ρ' else u d ρ') :=
  ⟨ps_imp (ps_if hc.pt ha.ps hb.ps) fun E σ H ⟨g, F, ρ, d, s, q, h⟩ => ⟨g, F, ρ, s, hc.mono ρ _ _ (fun b ρ' hb F' H' l s' => by
    cases b with
    | true => exact ⟨g, F', ρ', d, s', hb, h⟩
    | false => exact ⟨g, F', ρ', d, s', hb, h⟩) q⟩, fun d d' ρ i q => hc.mono ρ _ _ (fun b ρ' q => by
    cases b with
    | true => exact ha.mono d d' ρ' i q
    | false => exact hb.mono d d' ρ' i q) q⟩
theorem ds_exprM (ha : DEm X e M a tam) (hs : swapsWith a none pos.line X.env = pure false := by rfl) : DS X e M (.Expr a pos) (fun d ρ => tam ρ fun _ ρ' => d.nx ρ') :=
  ⟨ps_imp (ps_expr ha.pe hs) fun E σ H ⟨g, F, ρ, d, s, q, h⟩ => ⟨g, F, ρ, s, ha.mono ρ _ _ (fun x ρ' hx F' H' v l s' r => h.nx g F' H' σ ρ' s' hx) q⟩, fun d d' ρ i q => ha.mono ρ _ _ (fun _ ρ' q => i.nx ρ' q) q⟩
/-- y = x.m(..) -/
theorem ds_setM {i : Nat} {y : Str} (hN : X.N.Nodup) (hi : X.N[i]? = some y) (hx : Loc X.env.scope y) (ha : DEm X e M a tam) (hm : md M i = .val := by rfl) (hs : swapsWith a (some (.Name y p2)) pos.line X.env = pure false := by rfl)
    (hf : X.fn y = true ∨ X.env.scope.names.lookup y = some .local := by first | exact .inl rfl | exact .inr rfl | assumption) : DS X e M (.Assign [.Name y p2] a pos) (fun d ρ => tam ρ fun x ρ' => d.nx (sv ρ' i (some x))) :=
  ⟨ps_imp (L2.ps_set hN hi hx ha.pe hs hf) fun E σ H ⟨g, F, ρ, d, s, q, h⟩ => ⟨g, F, ρ, s, ha.mono ρ _ _ (fun x ρ' hx F' H' v l s' r => h.nx g F' H' _ _ (s'.setv hm r) hx) q⟩, fun d d' ρ i q => ha.mono ρ _ _ (fun _ ρ' q => i.nx _ q) q⟩
end
end PP

set_option Elab.async false
set_option linter.all false
set_option maxRecDepth 100000
set_option maxHeartbeats 4000000
namespace PP
open PySem PySem.Spec PyProof.Rows L2
/-! ### an object with one list is made -/
/-- __init__ that sets its one field to a new empty list -/
def spIni (K : PySem.W.Frag) (c f : Str) : Sp := fun vs H Q _ => ∃ b dx C, vs = [.ref b] ∧ H b = some (.ins C dx []) ∧ OneC K c C ∧ ∀ p, H p = none → Q .non (upd (upd H p (.lst [])) b (.ins C dx [(f, .ref p)]))
section
variable {P : Program} {w : World} {K : PySem.W.Frag} {mg : Str → Option Value} {base : Heap}
theorem ini_ok {c f : Str} {fks : List (Str × Fk)} {qual : Str} {st : Stmt} {fa : Addr} {fd : FuncData} {p1 p2 p3 p4 : Pos} (cf : ClsF K c (fks.map (·.1))) (hf : f ∈ fks.map (·.1)) (F : Fun K "__init__" qual st fa fd) (S : FnScope ["self"] ["self"] (defScope st))
    (hb : defBody st = [.Assign [.Attribute (.Name "self" p1) f p2] (.List [] p3) p4])
    (hv : ∀ (cdv : Value) (A : Around) (outer : List Env) (s : Shared) (H : Hp) (E : XK), PSs (cxOf CX0 P w K mg base ["self"] qual (defScope st) fa cdv A outer s H E).nox [.Assign [.Attribute (.Name "self" p1) f p2] (.List [] p3) p4] (sFld K (fun σ H Q => ∃ v, σ[0]? = some (some v) ∧ Q v H) (tLst tNil) f)) :
    FnOk P w K mg base CX0 1 fa fd ["self"] (spIni K c f) := by
  refine F.ok S (fun vs H Q E ⟨b, dx, C, e, _⟩ => by rw [e]; rfl) fun cdv A outer s H vs Q E hr h => ?_
  obtain ⟨b, dx, C, rfl, hb1, hc, q⟩ := h
  rw [hb]
  refine ⟨_, hv cdv A outer s H E, Nat.zero_le _, fun p hp => ?_⟩
  have pb : p ≠ b := fun z => by rw [z, hb1] at hp; cases hp
  exact ⟨.ref b, rfl, b, C, dx, [], rfl, by rw [upd_ne (Ne.symm pb)]; exact hb1, cf.cl C hc, cf.na C f hc hf, by decide, q p hp⟩
end
/-- what is made by its name -/
structure ClI (P : Program) (w : World) (K : PySem.W.Frag) (mg : Str → Option Value) (base : Heap) (k : Nat) (c f : Str) : Prop where
  ex : ∃ C fi fd, mg c = some (.ref C) ∧ OneC K c C ∧ Mk K C fi ∧ Binds K fd ["self"] [] ∧ FnOk P w K mg base CX0 k fi fd ["self"] (spIni K c f)
section
variable {X : Cx} {e : Ent} {M : List Md} {pos p1 p2 spos : Pos}
/-- x = C() -/
theorem ds_make0 {i : Nat} {y c f : Str} {k : Nat} (ci : ClI X.prog X.w X.K X.mg X.base k c f) (hr : Room (k + 1) X.A) (hg : Gl X c) (hN : X.N.Nodup) (hi : X.N[i]? = some y) (hx : Loc X.env.scope y) (hm : md M i = .ob c [(f, .own)] := by rfl)
    (hdb : (c == ("__debug__" : Str)) = false := by decide) (hs : swapsWith (.Call (.Name c p1) [] [] pos) (some (.Name y p2)) spos.line X.env = pure false := by rfl)
    (hf : X.fn y = true ∨ X.env.scope.names.lookup y = some .local := by first | exact .inl rfl | exact .inr rfl | assumption) : DS X e M (.Assign [.Name y p2] (.Call (.Name c p1) [] [] pos) spos) (fun d ρ => ∀ a : Addr, d.nx (sv ρ i (some (.dict [(.none, .int ((a : Nat) : Int)), (.str f, .list [])])))) := by
  obtain ⟨C, fi, fd, m1, m2, m3, m4, m5⟩ := ci.ex
  refine ⟨ps_imp (L2.ps_set hN hi hx (pe_make0 (E := fun _ _ _ => False) m3 m5 hr hg m1 m4 .nil pass0 hdb) hs hf) fun E σ H ⟨g, F, ρ, d, s, q, h⟩ => ?_, fun d d' ρ k q a => k.nx _ (q a)⟩
  intro x dx h1 h2 h3
  have xd : x ≠ dx := Ne.symm h3
  have hx1 : (upd H dx (.own x)) x = none := by rw [upd_ne xd]; exact h1
  refine ⟨x, dx, C, rfl, upd_same, m2, fun p hp => ⟨rfl, ?_⟩⟩
  have px : p ≠ x := fun z => by rw [z, upd_same] at hp; cases hp
  have pd : p ≠ dx := fun z => by rw [z, upd_ne (Ne.symm xd), upd_same] at hp; cases hp
  have hp0 : H p = none := by rw [upd_ne px, upd_ne pd] at hp; exact hp
  have b0 := s.bs
  have t1 : Stp g F H F (upd H dx (.own x)) := b0.hide h2 _
  have t2 : Stp g F H F (upd (upd H dx (.own x)) x (.ins C dx [])) := t1.trans ((t1.bs b0).hide hx1 _)
  have t3 : Stp g F H F (upd (upd (upd H dx (.own x)) x (.ins C dx [])) p (.lst [])) := t2.trans ((t2.bs b0).hide hp _)
  have fx := b0.sub.none h1
  have fd0 := b0.sub.none h2
  have fp := b0.sub.none hp0
  have t4 := t3.poke h1 fx (s.nmem h1) (.ins C dx [(f, .ref p)])
  refine h.nx g F _ _ _ (s.setmF t4 (fun q hq => ?_) ?_) (q x)
  · rw [hm] at hq
    obtain ⟨b', eb, hq⟩ := hq
    cases eb
    rcases hq with rfl | ⟨C2, dx2, fs2, hv, hq⟩
    · exact h1
    · rw [upd_same] at hv
      cases hv
      rcases hq with rfl | hq
      · exact h2
      · rw [ownA_cons] at hq
        have e : ownA ([] : List (Str × Fk)) ([] : List (Str × V)) = [] := rfl
        rw [e, List.append_nil] at hq
        rw [List.mem_singleton.mp hq]
        exact hp0
  rw [hm]
  refine ⟨x, dx, C, [(f, .ref p)], [(.str f, .list [])], rfl, rfl, upd_same, by rw [upd_ne h3, upd_ne (Ne.symm pd), upd_ne h3, upd_same], ⟨.ref p, .list [], [], [], rfl, rfl, ⟨p, [], [], rfl, rfl, by rw [upd_ne px, upd_same], rfl, fp, s.old hp0, s.nmem hp0⟩, rfl, rfl⟩, ⟨fx, fd0⟩, ⟨s.old h1, s.old h2⟩, ⟨s.nmem h1, s.nmem h2⟩, ?_, m2⟩
  rw [ownA_cons]
  have e : ownA ([] : List (Str × Fk)) ([] : List (Str × V)) = [] := rfl
  rw [e]
  simp [own1]
end
end PP

set_option Elab.async false
set_option linter.all false
set_option maxRecDepth 100000
set_option maxHeartbeats 4000000
namespace PP
open PySem PySem.Spec PyProof.Rows L2
section
variable {X : Cx} {e : Ent} {M : List Md} {pos p1 : Pos}
theorem rf (i : Nat) {y f : Str} {c : Str} {fks : List (Str × Fk)} (cf : ClsF X.K c (fks.map (·.1))) (hf : f ∈ fks.map (·.1) := by decide) (hN : X.N[i]? = some y := by rfl) (hv : Vis X.env.scope y := by first | exact Or.inl rfl | exact Or.inr (Or.inl rfl) | exact Or.inr (Or.inr rfl)) (hm : md M i = .ob c fks := by rfl)
    (hd : (y == ("__debug__" : Str)) = false := by decide) (hcd : (y == ("__classdict__" : Str)) = false := by decide) (hb : attributeBase (.Name y p1) f X.env (eval (.Name y p1) X.env) = eval (.Name y p1) X.env := by rfl) : RE X e M (.Attribute (.Name y p1) f pos) (tFl i f) := re_fld cf hf hN hv hm hd hcd hb
end
end PP

set_option Elab.async false
set_option linter.all false
set_option maxRecDepth 100000
set_option maxHeartbeats 4000000
namespace PP
open PySem PySem.Spec PyProof.Rows L2
section
variable {X : Cx} {e : Ent} {M : List Md} {a : Expr} {ta : DT} {pos p1 p2 p3 : Pos}
/-! ### x[::-1] of a list: new -/
def tRevF (ta : DT) : DA := fun ρ Q => ta ρ fun d => match d with | .list xs => Q xs.reverse | _ => False
theorem fe_revL {k : Nat} (ha : RE X e M a ta) : FE X e M (.Subscript a (.Slice none none (some (.UnaryOp .USub (.Constant (.int 1) k p1) p2)) p3) pos) (tRevF ta) :=
  ⟨pe_imp (pe_revL ha.pe) fun σ H Q ⟨g, F, ρ, sr, q⟩ => ⟨g, F, ρ, sr, ha.mono ρ _ _ (fun d hd F1 H1 v s1 rv => by
    split at hd
    · obtain ⟨p, vs, rfl, hp, m, r⟩ := rv.lst (s1.bs sr.bs)
      exact ⟨p, vs, rfl, .of hp, fun l hn => hd F1 _ l _ (s1.trans ((s1.bs sr.bs).hide hn _)) (s1.old hn) (s1.sub.none hn) upd_same r.reverse⟩
    · exact hd.elim) q⟩, fun ρ Q Q' f q => ha.mono ρ _ _ (fun d q => by
    split at q
    · exact f _ q
    · exact q.elim) q⟩
end
end PP

set_option Elab.async false
set_option linter.all false
set_option maxRecDepth 100000
set_option maxHeartbeats 4000000
namespace PP
open PySem PySem.Spec PyProof.Rows L2
/-! ### a dict in a field changes -/
section
variable {K : PySem.W.Frag} {g : Rg} {F H H2 : Hp} {eH : Hp}
theorem FldsOk.pokeD {f : Str} {p : Addr} {d' : D} (h : ∀ q vs, q ≠ p → H q = some (.lst vs) → H2 q = some (.lst vs)) (h' : ∀ q vs, q ≠ p → H q = some (.dK vs) → H2 q = some (.dK vs)) (new : FldOk K F H2 g eH .od d' (.ref p)) :
    ∀ {fks : List (Str × Fk)} {fs : List (Str × V)} {ks : List (D × D)}, fkind f fks = some .od → fs.lookup f = some (.ref p) → (ownA fks fs).Nodup → FldsOk K F H g eH fks fs ks → FldsOk K F H2 g eH fks fs (dset f d' ks)
  | [], _, _, e, _, _, _ => by cases e
  | (y, k2) :: r, fs, ks, e, l, n, q => by
    obtain ⟨x, d, fr, kr, rfl, rfl, h3, h4⟩ := q
    have e : (if y = f then some k2 else fkind f r) = some .od := e
    rw [ownA_cons] at n
    by_cases c : y = f
    · rw [if_pos c] at e
      cases e
      subst c
      rw [look_eq] at l
      cases l
      refine ⟨.ref p, d', fr, kr, rfl, ?_, new, FldsOk.stayN h h' (fun z => ?_) h4⟩
      · show (if y = y then (.str y, d') :: kr else (.str y, d) :: dset y d' kr) = _
        rw [if_pos rfl]
      · exact (List.nodup_append.mp n).2.2 p (by simp [own1]) p z rfl
    · rw [if_neg c] at e
      rw [look_ne c] at l
      obtain ⟨x2, d2, q1, q2, q3, q4⟩ := FldsOk.at e h4
      rw [l] at q1
      cases q1
      have pin : p ∈ ownA r fr := q4 p (by simp [own1])
      refine ⟨x, d, fr, dset f d' kr, rfl, ?_, h3.stayN h h' (fun z => (List.nodup_append.mp n).2.2 p z p pin rfl), FldsOk.pokeD h h' new e l (List.nodup_append.mp n).2.1 h4⟩
      show (if y = f then (.str y, d') :: kr else (.str y, d) :: dset f d' kr) = _
      rw [if_neg c]
end
section
variable {X : Cx} {e : Ent} {M : List Md} {a b b2 : Expr} {ta tb tb2 : DT} {pos p1 p2 p3 p4 p5 p6 spos : Pos}
/-- the dict of a field of ours changes -/
theorem SR.pokeFd {K : PySem.W.Frag} {g : Rg} {F H : Hp} {σ : L2.St} {ρ : En} (s : SR K e M g F H σ ρ) {i : Nat} {c : Str} {fks : List (Str × Fk)} {f : Str} {hd0 : D × D} {ks : List (D × D)} {xs : List (D × D)} (hm : md M i = .ob c fks) (hk : fkind f fks = some .od) (h : gt ρ i = some (.dict (hd0 :: ks))) (hl : dlook f ks = some (.dict xs)) :
    ∃ b dx C fs p vs, σ[i]? = some (some (.ref b)) ∧ H b = some (.ins C dx fs) ∧ OneC K c C ∧ fs.lookup f = some (.ref p) ∧ H p = some (.dK vs) ∧ RpK K F xs vs ∧ F p = none ∧ ¬ g.mem p ∧
      ∀ (F' H' : Hp) (ws : List (Key × V)) (zs : List (D × D)), Stp g F H F' H' → RpK K F' zs ws → SR K e M g F' (upd H' p (.dK ws)) σ (sv ρ i (some (.dict (hd0 :: dset f (.dict zs) ks)))) := by
  obtain ⟨v, h1, h2⟩ := s.slot i _ h
  rw [hm] at h2
  obtain ⟨b, dx, C, fs, ks2, e1, e2, h3, h4, h5, h6, h7, h8, h9, h10⟩ := h2
  subst e1
  obtain ⟨rfl, rfl⟩ := List.cons.inj (PyData.dict.inj e2)
  obtain ⟨x, d, q1, q2, q3, q4⟩ := h5.at hk
  rw [hl] at q2
  cases q2
  obtain ⟨p, vs, ds, rfl, e3, k1, k2, k3, k4, k5⟩ := q3
  cases e3
  refine ⟨b, dx, C, fs, p, vs, h1, h3, h10, q1, k1, k2, k3, k5, fun F' H' ws zs t r => ?_⟩
  have s' := s.step t
  have pb : b ≠ p := fun z => by rw [z, k1] at h3; cases h3
  have pd : dx ≠ p := fun z => by rw [z, k1] at h4; cases h4
  have pF := t.no k1 k3
  have gi : gt ρ i ≠ none := by rw [h]; simp
  have pin : p ∈ ownA fks fs := q4 p (by simp [own1])
  have h3' := t.keep _ _ h3 h8.1
  refine s.obj t gi h1 (fun x o hx hn => ?_) ?_ fun q hq => ?_
  · have : x ≠ p := fun z => hn (by rw [hm]; exact ⟨b, rfl, .inr ⟨_, _, _, h3, .inr (by rw [z]; exact pin)⟩⟩)
    rw [upd_ne this]; exact hx
  · rw [hm]
    have st : ∀ q vs, q ≠ p → H' q = some (.lst vs) → (upd H' p (.dK ws)) q = some (.lst vs) := fun q vs n hx => by rw [upd_ne n]; exact hx
    have st2 : ∀ q vs, q ≠ p → H' q = some (.dK vs) → (upd H' p (.dK ws)) q = some (.dK vs) := fun q vs n hx => by rw [upd_ne n]; exact hx
    have new : FldOk K F' (upd H' p (.dK ws)) g e.H .od (.dict zs) (.ref p) := ⟨p, ws, zs, rfl, rfl, upd_same, r, pF, k4, k5⟩
    exact ⟨b, dx, C, fs, dset f (.dict zs) ks, rfl, rfl, by rw [upd_ne pb]; exact t.keep _ _ h3 h8.1, by rw [upd_ne pd]; exact t.keep _ _ h4 h8.2, FldsOk.pokeD st st2 new hk q1 h9 (h5.step t), ⟨t.no h3 h6.1, t.no h4 h6.2⟩, h7, h8, h9, h10⟩
  · rw [hm] at hq ⊢
    obtain ⟨b', eb, hq⟩ := hq
    cases eb
    refine .inl ⟨b, rfl, ?_⟩
    rcases hq with hq | ⟨C', dx', fs', hv, hq⟩
    · exact .inl hq
    · rw [upd_ne pb, h3'] at hv
      cases hv
      exact .inr ⟨_, _, _, h3, hq⟩
/-- x.f[k] = y, on what is known -/
def putF1 (i : Nat) (f : Str) (tk : DT) (y : D) (ρ : En) (k : En → Prop) : Prop := match gt ρ i with
  | some (.dict (hd :: ks)) => (match dlook f ks with
    | some (.dict kd) => tk ρ fun z => (match kOf z with | some c => kd.length < sizeLine ∧ k (sv ρ i (some (.dict (hd :: dset f (.dict (dPut kd c y)) ks)))) | none => False)
    | _ => False)
  | _ => False
theorem putF1_mono {i : Nat} {f : Str} {y : D} {ρ : En} {k k' : En → Prop} (hb : Mono tb) (h : ∀ ρ, k ρ → k' ρ) : putF1 i f tb y ρ k → putF1 i f tb y ρ k' := fun q => by
  unfold putF1 at q ⊢
  split at q
  · split at q
    · refine hb ρ _ _ (fun z q => ?_) q
      split at q
      · exact ⟨q.1, h _ q.2⟩
      · exact q.elim
    · exact q.elim
  · exact q.elim
/-- one target of this form -/
theorem putF1_g {K : PySem.W.Frag} (hK : X.K = K) {i : Nat} {f : Str} {c : Str} {fks : List (Str × Fk)} (cf : ClsF X.K c (fks.map (·.1))) (hb : RE X e M b tb) (hf : f ∈ fks.map (·.1)) (hk : fkind f fks = some .od) (hm : md M i = .ob c fks)
    {g : Rg} {F H : Hp} {σ : L2.St} {ρ : En} {y : D} {v : V} {k : En → Prop} {Q : L2.St → Hp → Prop} (s : SR X.K e M g F H σ ρ) (r : Rp X.K F y v) (q : putF1 i f tb y ρ k)
    (fin : ∀ F' H' ρ', Le F F' → SR X.K e M g F' H' σ ρ' → k ρ' → Q σ H') :
    gSub (tFld X.K (fun σ H Q => ∃ v, σ[i]? = some (some v) ∧ Q v H) f) (rdR X.K e M tb) rSetD v σ H Q := by
  unfold putF1 at q
  split at q
  · rename_i hd0 ks hk0
    split at q
    · rename_i xs hx
      obtain ⟨b, dx, C, fs, p, vs, h1, h3, h10, q1, k1, k2, k3, k5, put⟩ := s.pokeFd hm hk hk0 hx
      refine ⟨_, h1, b, C, dx, fs, .ref p, rfl, h3, cf.cl C h10, cf.na C f h10 hf, q1, g, F, ρ, s, hb.mono ρ _ _ (fun z hz F2 H2 w t2 r2 => ?_) q⟩
      split at hz
      · rename_i cc hc
        have kk := t2.keep _ _ k1 k5
        refine ⟨p, _, rfl, .inl ⟨vs, cc, kk, r2.key hc, by rw [k2.len]; exact hz.1, rfl⟩, ?_⟩
        exact fin F2 _ _ t2.mono (put F2 H2 _ _ t2 ((RpK.mono t2.mono k2).put cc (r.mono t2.mono))) hz.2
      · exact hz.elim
    · exact q.elim
  · exact q.elim
/-- x.f[k] = e -/
def tFput (i : Nat) (f : Str) (te tk : DT) : DTS := fun d ρ => te ρ fun y => putF1 i f tk y ρ d.nx
theorem ds_fldPut (i : Nat) {y f : Str} {c : Str} {fks : List (Str × Fk)} (cf : ClsF X.K c (fks.map (·.1))) (hu : X.A.units + 64 < cLine) (ha : DE X e M a ta) (hb : RE X e M b tb) (hf : f ∈ fks.map (·.1) := by decide) (hk : fkind f fks = some .od := by rfl) (hN : X.N[i]? = some y := by rfl)
    (hv : Vis X.env.scope y := by first | exact Or.inl rfl | exact Or.inr (Or.inl rfl) | exact Or.inr (Or.inr rfl)) (hm : md M i = .ob c fks := by rfl) (hd : (y == ("__debug__" : Str)) = false := by decide) (hcd : (y == ("__classdict__" : Str)) = false := by decide)
    (hba : attributeBase (.Name y p1) f X.env (eval (.Name y p1) X.env) = eval (.Name y p1) X.env := by rfl)
    (hE : ∀ {to ti te : TE}, X.A.units + 1 < cLine → PE X (.Attribute (.Name y p1) f p2) to → PE X b ti → PE X a te → PS X (.Assign [.Subscript (.Attribute (.Name y p1) f p2) b p3] a spos) (tAsg te (gSub to ti rSetD)) := by
      intro to ti te h0 h1 h2 h3; exact ps_asg h3 (pg_sub h1 h2 (set_dict h0))) : DS X e M (.Assign [.Subscript (.Attribute (.Name y p1) f p2) b p3] a spos) (tFput i f ta tb) :=
  ⟨ps_imp (hE (by omega) (pe_fld (pe_var hN hv hd hcd) hba) hb.pe ha.pe) fun E σ H ⟨g, F, ρ, d, s, q, h⟩ => ⟨g, F, ρ, s, ha.mono ρ _ _ (fun x hx F1 H1 v t1 r1 =>
    putF1_g rfl cf hb hf hk hm (s.step t1) r1 hx fun F' H' ρ' l s' k => h.nx g F' H' σ ρ' s' k) q⟩, fun d d' ρ j q => ha.mono ρ _ _ (fun x q => putF1_mono hb.mono (fun _ z => j.nx _ z) q) q⟩
/-- x.f[k] = x.f2[k2] = e -/
def tFput2 (i : Nat) (f f2 : Str) (te tk tk2 : DT) : DTS := fun d ρ => te ρ fun y => putF1 i f tk y ρ fun ρ' => putF1 i f2 tk2 y ρ' d.nx
theorem ds_fldPut2 (i : Nat) {y f f2 : Str} {c : Str} {fks : List (Str × Fk)} (cf : ClsF X.K c (fks.map (·.1))) (hu : X.A.units + 64 < cLine) (ha : DE X e M a ta) (hb : RE X e M b tb) (hb2 : RE X e M b2 tb2) (hf : f ∈ fks.map (·.1) := by decide) (hk : fkind f fks = some .od := by rfl) (hf2 : f2 ∈ fks.map (·.1) := by decide) (hk2 : fkind f2 fks = some .od := by rfl) (hN : X.N[i]? = some y := by rfl)
    (hv : Vis X.env.scope y := by first | exact Or.inl rfl | exact Or.inr (Or.inl rfl) | exact Or.inr (Or.inr rfl)) (hm : md M i = .ob c fks := by rfl) (hd : (y == ("__debug__" : Str)) = false := by decide) (hcd : (y == ("__classdict__" : Str)) = false := by decide)
    (hba : attributeBase (.Name y p1) f X.env (eval (.Name y p1) X.env) = eval (.Name y p1) X.env := by rfl) (hba2 : attributeBase (.Name y p4) f2 X.env (eval (.Name y p4) X.env) = eval (.Name y p4) X.env := by rfl)
    (hE : ∀ {to ti to2 ti2 te : TE}, X.A.units + 1 < cLine → PE X (.Attribute (.Name y p1) f p2) to → PE X b ti → PE X (.Attribute (.Name y p4) f2 p5) to2 → PE X b2 ti2 → PE X a te → PS X (.Assign [.Subscript (.Attribute (.Name y p1) f p2) b p3, .Subscript (.Attribute (.Name y p4) f2 p5) b2 p6] a spos) (tAsg2 te (gSub to ti rSetD) (gSub to2 ti2 rSetD)) := by
      intro to ti to2 ti2 te h0 h1 h2 h3 h4 h5; exact ps_asg2 h5 (pg_sub h1 h2 (set_dict h0)) (pg_sub h3 h4 (set_dict h0))) : DS X e M (.Assign [.Subscript (.Attribute (.Name y p1) f p2) b p3, .Subscript (.Attribute (.Name y p4) f2 p5) b2 p6] a spos) (tFput2 i f f2 ta tb tb2) :=
  ⟨ps_imp (hE (by omega) (pe_fld (pe_var hN hv hd hcd) hba) hb.pe (pe_fld (pe_var hN hv hd hcd) hba2) hb2.pe ha.pe) fun E σ H ⟨g, F, ρ, d, s, q, h⟩ => ⟨g, F, ρ, s, ha.mono ρ _ _ (fun x hx F1 H1 v t1 r1 =>
    putF1_g rfl cf hb hf hk hm (s.step t1) r1 hx fun F' H' ρ' l s' k => putF1_g rfl cf hb2 hf2 hk2 hm s' (r1.mono l) k fun F'' H'' ρ'' _ s'' k' => h.nx g F'' H'' σ ρ'' s'' k') q⟩, fun d d' ρ j q => ha.mono ρ _ _ (fun x q => putF1_mono hb.mono (fun _ z => putF1_mono hb2.mono (fun _ z => j.nx _ z) z) q) q⟩
end
end PP

set_option Elab.async false
set_option linter.all false
set_option maxRecDepth 100000
set_option maxHeartbeats 4000000
namespace PP
open PySem PySem.Spec PyProof.Rows L2
/-! ### an object of several fields is made: x = C(e, ..) -/
abbrev KInit := List D → (List (D × D) → Prop) → Prop
def MonoI (kf : KInit) : Prop := ∀ ds (Q Q' : List (D × D) → Prop), (∀ k, Q k → Q' k) → kf ds Q → kf ds Q'
/-- __init__: told the other arguments, leaves all fields -/
def spIniA (K : PySem.W.Frag) (c : Str) (fks : List (Str × Fk)) (ms : List Md) (kf : KInit) : Sp := fun vs H Q _ => ∃ g F H0 b dx C vr ds, vs = .ref b :: vr ∧ H = upd (upd H0 dx (.own b)) b (.ins C dx []) ∧ H0 b = none ∧ H0 dx = none ∧ b ≠ dx ∧ OneC K c C ∧ Bs g F H0 ∧ ArgsOk K g F H0 ms ds vr ∧
  kf ds fun ks => ∀ F' H' fs, Stp g F H0 F' H' → ObAt K F' H' g H0 c fks b dx fs ks → Q .non H'
structure ClIA (P : Program) (w : World) (K : PySem.W.Frag) (mg : Str → Option Value) (base : Heap) (k : Nat) (c : Str) (fks : List (Str × Fk)) (ps : List Str) (ms : List Md) (kf : KInit) : Prop where
  ex : ∃ C fi fd, mg c = some (.ref C) ∧ OneC K c C ∧ Mk K C fi ∧ Binds K fd ps [] ∧ FnG P w K mg base CX0 k fi fd ps (spIniA K c fks ms kf)
  mo : MonoI kf
section
variable {X : Cx} {e : Ent} {M ms : List Md} {a : Expr} {xs : List Expr} {tr : DA} {pos p1 p2 spos : Pos} {k : Nat} {f C : Addr} {fd : FuncData} {ps : List Str} {sp : Sp} {x : Str} {t : TA}
theorem run_makeG {pins : List (Addr × Obj)} {σ : L2.St} {H : Hp} {s : Shared} {Q : VK} {us : List Value} {vs : List V} (M : Mk X.K C f) (F : FnG X.prog X.w X.K X.mg X.base CX0 k f fd ps sp) (hr : Room (k + 1) X.A) (hgd : X.A.guards = some []) (hb : Binds X.K fd ps [])
    (I : Inv X pins σ H s) (r : Vals vs us)
    (h : ∀ x dx, H x = none → H dx = none → dx ≠ x → sp (.ref x :: vs) (upd (upd H dx (.own x)) x (.ins C dx [])) (fun v H2 => v = .non ∧ Q (.ref x) H2) (fun _ _ _ => False)) :
    wpAny (model X.prog X.w) X.A (call (.ref C) us) (EP X pins σ Q) X.xe s := by
  have hq := h (s.heap.objs.size + 1) s.heap.objs.size (I.hok.fresh (Nat.le_succ _)) (I.hok.fresh (Nat.le_refl _)) (Nat.ne_of_lt (Nat.lt_succ_self _))
  have I2 := Inv.made (C := C) I
  have r2 : Vals (V.ref (s.heap.objs.size + 1) :: vs) (Value.ref (s.heap.objs.size + 1) :: us) := .cons rfl r
  have hl : (Value.ref (s.heap.objs.size + 1) :: us).length = ps.length := by
    have e := r2.length
    rw [F.len _ _ _ _ hq] at e
    exact e.symm
  have hbd := hb _ (Value.ref (s.heap.objs.size + 1) :: us) I2.kIn (by simpa using hl)
  rw [List.append_nil] at hbd
  refine wpAny_call (make_map (f := f) I.kIn M.makes M.init (beq_iff_eq.mp M.fn) (codeAny_mono (F.go _ X.stack _ _ ⟨Value.ref (s.heap.objs.size + 1) :: us, []⟩ (Value.ref (s.heap.objs.size + 1) :: us) _ _ (fun _ _ _ => False) (hr.make C us []) hgd
    (I2.env0.make C us []) hbd r2 hq) fun r s' hq' => ?_))
  cases r with
  | error e => exact pass0 pins σ _ _ e s' I2 hq'
  | ok fl =>
    cases fl with
    | ret u =>
      obtain ⟨v, H', I3, rv, ev, q3⟩ := I2.after hq'
      subst ev
      exact ⟨rv, ⟨V.ref (s.heap.objs.size + 1), H', I3, rfl, q3⟩⟩
    | next => exact False.elim hq'
    | brk => exact False.elim hq'
    | cont => exact False.elim hq'
def tMakeG (C : Addr) (sp : Sp) (t : TA) : TE := fun σ H Q => t σ H fun vs H1 => ∀ x dx, H1 x = none → H1 dx = none → dx ≠ x → sp (.ref x :: vs) (upd (upd H1 dx (.own x)) x (.ins C dx [])) (fun v H2 => v = .non ∧ Q (.ref x) H2) (fun _ _ _ => False)
theorem pe_makeG (M : Mk X.K C f) (F : FnG X.prog X.w X.K X.mg X.base CX0 k f fd ps sp) (hr : Room (k + 1) X.A) (hgd : X.A.guards = some []) (hg : Gl X x) (hm : X.mg x = some (.ref C)) (hb : Binds X.K fd ps [])
    (ha : PA X (a :: xs) t) (hdb : (x == ("__debug__" : Str)) = false := by decide) (he : starEach (a :: xs) X.env = (false, eval a X.env) :: starEach xs X.env := by rfl) (hpl : (backTo pos (starEach xs X.env)).any (·.1) = false := by rfl) :
    PE X (.Call (.Name x p1) (a :: xs) [] pos) (tMakeG C sp t) := by
  refine ⟨fun pins s σ H Q I h => ?_⟩
  refine wpAny_Call_Name_kw (ld_glob I hg hm ?_ hdb)
  refine PySem.W.callWith_K (h₀ := X.base) I.ok.mod.kin M.kp (thn (ha.run pos pins s σ H _ I h) fun us s1 ⟨vs, H1, I1, r, q⟩ => ⟨I1.kIn, ?_⟩) he hpl
  exact run_makeG M F hr hgd hb I1 r q
/-- y = C(e, ..) -/
theorem ds_makeA {i : Nat} {y c : Str} {fks : List (Str × Fk)} {kf : KInit} (ci : ClIA X.prog X.w X.K X.mg X.base k c fks ps ms kf) (hr : Room (k + 1) X.A) (hgd : X.A.guards = some []) (hg : Gl X c) (ha : GA X e M ms (a :: xs) tr) (hN : X.N.Nodup) (hi : X.N[i]? = some y) (hx : Loc X.env.scope y) (hm : md M i = .ob c fks := by rfl)
    (hdb : (c == ("__debug__" : Str)) = false := by decide) (he : starEach (a :: xs) X.env = (false, eval a X.env) :: starEach xs X.env := by rfl) (hpl : (backTo pos (starEach xs X.env)).any (·.1) = false := by rfl)
    (hs : swapsWith (.Call (.Name c p1) (a :: xs) [] pos) (some (.Name y p2)) spos.line X.env = pure false := by rfl)
    (hf : X.fn y = true ∨ X.env.scope.names.lookup y = some .local := by first | exact .inl rfl | exact .inr rfl | assumption) : DS X e M (.Assign [.Name y p2] (.Call (.Name c p1) (a :: xs) [] pos) spos) (fun d ρ => tr ρ fun ds => kf ds fun ks => ∀ b : Addr, d.nx (sv ρ i (some (.dict ((.none, .int ((b : Nat) : Int)) :: ks))))) := by
  obtain ⟨C, fi, fd, m1, m2, m3, m4, m5⟩ := ci.ex
  refine ⟨ps_imp (L2.ps_set hN hi hx (pe_makeG m3 m5 hr hgd hg m1 m4 ha.pa hdb he hpl) hs hf) fun E σ H ⟨g, F, ρ, d, s, q, h⟩ => ⟨g, F, ρ, s, ha.mono ρ _ _ (fun ds hq F1 H1 vs t ar => ?_) q⟩, fun d d' ρ j q => ha.mono ρ _ _ (fun ds q => ci.mo _ _ _ (fun ks q b => j.nx _ (q b)) q) q⟩
  have s1 := s.step t
  intro x dx h1 h2 h3
  refine ⟨g, F1, H1, x, dx, C, vs, ds, rfl, rfl, h1, h2, Ne.symm h3, m2, s1.bs, ar, ci.mo _ _ _ (fun ks hq F' H' fs t' ob => ⟨rfl, ?_⟩) hq⟩
  obtain ⟨C', b3, b4, b5, b6, b8, b7, b9, b10⟩ := ob
  have own := b5.ownE
  refine h.nx g F' H' _ _ (s1.setmF t' (fun q hq => ?_) ?_) (hq x)
  · rw [hm] at hq
    obtain ⟨b', eb, hq⟩ := hq
    cases eb
    rcases hq with rfl | ⟨C2, dx2, fs2, hv, hq⟩
    · exact h1
    · rw [b3] at hv
      cases hv
      rcases hq with rfl | hq
      · exact h2
      · exact (own q hq).1
  · rw [hm]
    exact ⟨x, dx, C', fs, ks, rfl, rfl, b3, b4, b5.reE fun p hp => s1.old (own p hp).1, b6, ⟨s1.old h1, s1.old h2⟩, ⟨s1.nmem h1, s1.nmem h2⟩, b9, b10⟩
end
end PP

set_option Elab.async false
set_option linter.all false
set_option maxRecDepth 100000
set_option maxHeartbeats 4000000
namespace PP
open PySem PySem.Spec PyProof.Rows L2
/-! ### a method that leaves some fields as they are -/
def spMk (K : PySem.W.Frag) (c : Str) (fks : List (Str × Fk)) (ms : List Md) (km : KM) (kp : List Str) : Sp := fun vs H Q _ => ∃ g F a dx fs ks vr ds, vs = .ref a :: vr ∧ ObAt K F H g (unown H a dx (ownA fks fs)) c fks a dx fs ks ∧ Bs g F H ∧ ArgsOk K g F H ms ds vr ∧
  km ks ds fun d ks' => ∀ F' H' v dx' fs', Stp g F (unown H a dx (ownA fks fs)) F' H' → ObAt K F' H' g (unown H a dx (ownA fks fs)) c fks a dx' fs' ks' → Rp K F' d v → (∀ f ∈ kp, fs'.lookup f = fs.lookup f) → Q v H'
structure ClMk (P : Program) (w : World) (K : PySem.W.Frag) (mg : Str → Option Value) (base : Heap) (k : Nat) (c m : Str) (fks : List (Str × Fk)) (ps : List Str) (ms : List Md) (km : KM) (kp : List Str) : Prop where
  ex : ∃ f fd, (∀ C, OneC K c C → Meth K C m f) ∧ Binds K fd ps [] ∧ FnG P w K mg base CX0 k f fd ps (spMk K c fks ms km kp)
  mo : MonoKM km
section
variable {X : Cx} {e : Ent} {M ms : List Md} {a b : Expr} {xs : List Expr} {ta : DT} {tr : DA} {pos p1 p2 p3 spos q1 q2 q3 q4 q5 q6 q7 q8 q9 : Pos}
/-- x.f.append(tuple(sorted((a, *x.m(b))))) -/
def tFappM (i : Nat) (f : Str) (km : KM) (ta : DT) (tr : DA) : DTS := fun d ρ => match gt ρ i with
  | some (.dict (hd :: ks)) => (match dlook f ks with
    | some (.list _) => ta ρ fun da => tr ρ fun ds => km ks ds fun dl ks' => ∃ (k : Int) (ns : List Int) (fo : List D), da = .int k ∧ dl = .list (ns.map PyData.int) ∧ ns.length < 1000 ∧ dlook f ks' = some (.list fo) ∧ fo.length < sizeLine ∧
        d.nx (sv (sv ρ i (some (.dict (hd :: ks')))) i (some (.dict (hd :: dset f (.list (fo ++ [.tuple ((srtI (k :: ns)).map PyData.int)])) ks'))))
    | _ => False)
  | _ => False
theorem ds_fldAppM (i : Nat) {k : Nat} {y f m : Str} {c : Str} {fks : List (Str × Fk)} {ps : List Str} {km : KM} {kp : List Str} {x1 : Nat} {pl : Sem Bool} (cf : ClsF X.K c (fks.map (·.1))) (cm : ClMk X.prog X.w X.K X.mg X.base k c m fks ps ms km kp) (hr : Room k X.A) (hgd : X.A.guards = some [])
    (hgt : Gl X "tuple") (hmt : X.mg "tuple" = none) (hgs : Gl X "sorted") (hms : X.mg "sorted" = none) (ha : DE X e M a ta) (hb : GA X e M ms [b] tr) (hf : f ∈ fks.map (·.1) := by decide) (hkp : f ∈ kp := by decide) (hk : fkind f fks = some .own := by rfl) (hn : m ∉ fks.map (·.1) := by decide) (hN : X.N[i]? = some y := by rfl)
    (hv : Vis X.env.scope y := by first | exact Or.inl rfl | exact Or.inr (Or.inl rfl) | exact Or.inr (Or.inr rfl)) (hm : md M i = .ob c fks := by rfl) (hd : (y == ("__debug__" : Str)) = false := by decide) (hcd : (y == ("__classdict__" : Str)) = false := by decide)
    (hba : attributeBase (.Name y p1) f X.env (eval (.Name y p1) X.env) = eval (.Name y p1) X.env := by rfl)
    (hst : starEach [b] X.env = (false, eval b X.env) :: starEach [] X.env := by rfl) (hpl : (backTo q5 (starEach [] X.env)).any (·.1) = false := by rfl)
    (ht : eval (.Call (.Attribute (.Name y q3) m q4) [b] [] q5) X.env = (do
      let ov ← eval (.Name y q3) X.env
      standAt q4.atName
      let (f, first) ← holding [ov] (getMethod ov m pl)
      callWith q5 f first (backTo q5 (starEach [b] X.env)) (backToKw q5 (keywordEach [] X.env))) := by rfl)
    (hE : ∀ {to ta tm : TE}, Gl X "tuple" → X.mg "tuple" = none → Gl X "sorted" → X.mg "sorted" = none → PE X (.Attribute (.Name y p1) f p2) to → PE X a ta → PE X (.Call (.Attribute (.Name y q3) m q4) [b] [] q5) tm →
      PE X (.Call (.Attribute (.Attribute (.Name y p1) f p2) "append" p3) [.Call (.Name "tuple" q2) [.Call (.Name "sorted" q1) [.Tuple [a, .Starred (.Call (.Attribute (.Name y q3) m q4) [b] [] q5) q6] x1 q7] [] q8] [] q9] [] pos)
        (tBM X.K "list" rAppend to (L2.tCons (tCB (rTupP X.K) (L2.tCons (tCB (rSortedIT X.K) (L2.tCons (tTupP (L2.tCons ta (StX.tStar X.K tm L2.tNil))) L2.tNil)) L2.tNil)) L2.tNil)) := by
      intro to ta tm g1 g2 g3 g4 h h2 h3
      exact pe_bm PySem.F.plainAttrs_list PySem.F.slot_list_append PySem.F.type_list_append mt_append h (pa_cons (pe_callTy cr_tupP g1 g2 (by decide +kernel) (pa_cons (pe_callB cr_sortedIT g3 g4 (by decide +kernel) (pa_cons (pe_tupP (pa_cons h2 (StX.pa_star h3 pa_nil))) pa_nil)) pa_nil)) pa_nil))
    (hs : swapsWith (.Call (.Attribute (.Attribute (.Name y p1) f p2) "append" p3) [.Call (.Name "tuple" q2) [.Call (.Name "sorted" q1) [.Tuple [a, .Starred (.Call (.Attribute (.Name y q3) m q4) [b] [] q5) q6] x1 q7] [] q8] [] q9] [] pos) none spos.line X.env = pure false := by rfl) :
    DS X e M (.Expr (.Call (.Attribute (.Attribute (.Name y p1) f p2) "append" p3) [.Call (.Name "tuple" q2) [.Call (.Name "sorted" q1) [.Tuple [a, .Starred (.Call (.Attribute (.Name y q3) m q4) [b] [] q5) q6] x1 q7] [] q8] [] q9] [] pos) spos) (tFappM i f km ta tr) := by
  obtain ⟨fm, fd, m1, m2, m3⟩ := cm.ex
  refine ⟨ps_imp (ps_expr (hE hgt hmt hgs hms (pe_fld (pe_var hN hv hd hcd) hba) ha.pe (pe_methG (pe_var hN hv hd hcd) m3 hr hgd m2 hb.pa hst hpl ht)) hs) fun E σ H ⟨g, F, ρ, d, s, q, h⟩ => ?_, fun d d' ρ j q => ?_⟩
  · unfold tFappM at q
    split at q
    · rename_i hd0 ks hk0
      split at q
      · rename_i fo0 hx0
        obtain ⟨b0, dx0, C0, fs0, p0, vs0, h1, h3, h10, l1, k1, k2, k3, k5, _⟩ := s.pokeF hm hk hk0 hx0
        refine ⟨_, h1, b0, C0, dx0, fs0, .ref p0, rfl, h3, cf.cl C0 h10, cf.na C0 f h10 hf, l1, .inl ⟨rfl, vs0, .inl (.inl k1)⟩, g, F, ρ, s, ha.mono ρ _ _ (fun da hda F1 H1 va t1 r1 => ?_) q⟩
        have s1 := s.step t1
        obtain ⟨v, u1, u2⟩ := s1.slot i _ hk0
        rw [hm] at u2
        obtain ⟨b, dx, C, fs, ks2, e1, e2, a3, a4, a5, a6, a7, a8, a9, a10⟩ := u2
        subst e1
        obtain ⟨rfl, rfl⟩ := List.cons.inj (PyData.dict.inj e2)
        refine ⟨_, u1, b, C, dx, fs, rfl, a3, cf.cl C a10, m1 C a10, a5.nolook hn, g, F1, ρ, s1, hb.mono ρ _ _ (fun ds hq F2 H2 vs t2 ar => ?_) hda⟩
        have s2 := s1.step t2
        have ob : ObAt X.K F2 H2 g e.H c fks b dx fs ks := ⟨C, t2.keep _ _ a3 a8.1, t2.keep _ _ a4 a8.2, a5.step t2, ⟨t2.no a3 a6.1, t2.no a4 a6.2⟩, a8, a7, a9, a10⟩
        have ob0 : ObAt X.K F2 H2 g (unown H2 b dx (ownA fks fs)) c fks b dx fs ks := by
          obtain ⟨C, b3, b4, b5, b6, b8, b7, b9, b10⟩ := ob
          exact ⟨C, b3, b4, b5.reE (fun p hp => by unfold unown; rw [if_pos (.inr (.inr hp))]), b6, b8, ⟨by unfold unown; simp, by unfold unown; simp⟩, b9, b10⟩
        refine ⟨g, F2, b, dx, fs, ks, vs, ds, rfl, ob0, s2.bs, ar, cm.mo _ _ _ _ (fun dl ks' ⟨kk, ns, fo, ek, el, hl, hx, hz, hnx⟩ F' H' vl dx' fs' t' ob' rl kept => ?_) hq⟩
        subst ek el
        have s3 := s2.behind hm u1 (by rw [hk0]; simp) ob t' ob'
        obtain ⟨C', o3, _⟩ := ob'
        obtain ⟨pl', vl', rfl, hpl', rl'⟩ := rl
        have evl := RpL.ints_inv rl'
        subst evl
        refine ⟨pl', _, rfl, .inr (.inl (.inl (s3.bs.sub _ _ hpl'))), ?_⟩
        have eva : va = .int kk := r1
        subst eva
        have big : 2000 ≤ sizeLine := by decide
        refine ⟨by simp; omega, fun p4 o4 n4 c4 d4 => ?_⟩
        have st4 := s3.bs.hide n4 (.frz o4 (.tup (V.int kk :: (ns.map V.int ++ []))))
        have s4 := s3.step st4
        refine ⟨p4, kk :: ns, rfl, by rw [List.append_nil]; exact .inl (.inr ⟨o4, upd_same⟩), fun js p5 hp5 ha5 n5 => ?_⟩
        have ej := srtI_eq hp5 ha5
        have st5 := s4.bs.hide n5 (.lst (js.map V.int))
        have s5 := s4.step st5
        refine ⟨p5, _, rfl, .inl ⟨.inl (.inl upd_same), fun p6 o6 n6 c6 d6 => ?_⟩⟩
        have st6 := s5.bs.alloc n6 (.frz o6 (.tup (js.map V.int)))
        obtain ⟨b9, dx9, C9, fs9, p9, vs9, g1, g2, g3, g4, g5, g6, g7, g8, put⟩ := s5.pokeF hm hk (h := (by rw [gt_sv, if_pos rfl, if_pos (by have := (List.getElem?_eq_some_iff.mp u1).1; rw [s1.len] at this; exact this)] : gt (sv ρ i (some (.dict ((.none, .int ((b : Nat) : Int)) :: ks')))) i = some (.dict ((.none, .int ((b : Nat) : Int)) :: ks')))) hx
        rw [u1] at g1
        cases g1
        have kb : ∀ o, H' b = some o → (upd (upd H' p4 (.frz o4 (.tup (V.int kk :: (ns.map V.int ++ []))))) p5 (.lst (js.map V.int))) b = some o := fun o ho => st5.keep _ _ (st4.keep _ _ ho a8.1) a8.1
        have eb := kb _ o3
        rw [g2] at eb
        cases eb
        have e0 : b0 = b := by rw [h1] at u1; cases u1; rfl
        subst e0
        have ef := t1.keep _ _ h3 a8.1
        rw [a3] at ef
        cases ef
        have ep := kept f hkp
        rw [g4, l1] at ep
        cases ep
        refine ⟨p0, vs9, .ref p6, rfl, rfl, st6.keep _ _ g5 g8, by rw [g6.length]; exact hz, ?_⟩
        refine h.nx g _ _ σ _ (put _ _ (vs9 ++ [.ref p6]) (fo ++ [.tuple ((srtI (kk :: ns)).map PyData.int)]) st6 ?_) hnx
        refine (g6.mono st6.mono).append (.cons ⟨p6, js.map V.int, rfl, FrT.new c6 d6, by rw [← ej]; exact RpL.ints _⟩ .nil)
      · exact q.elim
    · exact q.elim
  · unfold tFappM at q ⊢
    split at q
    · split at q
      · exact ha.mono ρ _ _ (fun da q => hb.mono ρ _ _ (fun ds q => cm.mo _ _ _ _ (fun dl ks' ⟨k, ns, fo, h1, h2, h3, h4, h5, q⟩ => ⟨k, ns, fo, h1, h2, h3, h4, h5, j.nx _ q⟩) q) q) q
      · exact q.elim
    · exact q.elim
end
end PP

set_option Elab.async false
set_option linter.all false
set_option maxRecDepth 100000
set_option maxHeartbeats 3000000
namespace PP
open PySem PySem.Spec PyProof.Rows L2
/-- pairs of two tuples -/
def zpD (xs ys : List D) : List D := (xs.zip ys).map fun p => PyData.tuple [p.1, p.2]
theorem zpD_get {xs ys : List D} {i : Nat} {d : D} (h : (zpD xs ys)[i]? = some d) : ∃ x y, xs[i]? = some x ∧ ys[i]? = some y ∧ d = .tuple [x, y] := by
  unfold zpD at h
  rw [List.getElem?_map] at h
  cases q : (xs.zip ys)[i]? with
  | none => rw [q] at h; cases h
  | some z =>
    rw [q] at h
    cases h
    obtain ⟨h1, h2⟩ := List.getElem?_zip_eq_some.mp q
    exact ⟨z.1, z.2, h1, h2, rfl⟩
theorem zpD_len (xs ys : List D) : (zpD xs ys).length = min xs.length ys.length := by simp [zpD]

/-! ### zip of two tuples: its pairs have no dict -/
def ItzF (K : PySem.W.Frag) (a b : Addr) : It where
  go i H := ∃ (xs ys : List V) (x y : V), SqT K H a xs ∧ SqT K H b ys ∧ xs[i]? = some x ∧ ys[i]? = some y
  yld i H v H' := ∃ T x y o, v = .ref T ∧ H T = none ∧ H' = upd H T (.frz o (.tup [x, y])) ∧ (o.cls = Value.type "tuple" ∧ o.dict = none) ∧ (∀ xs, SqT K H a xs → xs[i]? = some x) ∧ ∀ ys, SqT K H b ys → ys[i]? = some y
  stop i H := ∃ xs ys : List V, SqT K H a xs ∧ SqT K H b ys ∧ (xs.length ≤ i ∨ ys.length ≤ i)
theorem wk_zipF {K : PySem.W.Frag} {F : Hp} {a b : Addr} {xs ys : List V} {ds es : List D} (h : FrT F a xs) (r : RpL K F ds xs) (h' : FrT F b ys) (r' : RpL K F es ys) : Wk K (ItzF K a b) (zpD ds es) F := fun g F' H' bs l i => by
  have hq : SqT K H' a xs := bs.sub.sqT (l.frT h)
  have hq' : SqT K H' b ys := bs.sub.sqT (l.frT h')
  have hl := r.length
  have hl' := r'.length
  rw [zpD_len]
  refine ⟨fun hi => ?_, fun hi => ⟨xs, ys, hq, hq', by omega⟩⟩
  have hx : i < xs.length := by omega
  have hy : i < ys.length := by omega
  refine ⟨⟨xs, ys, xs[i], ys[i], hq, hq', by simp [hx], by simp [hy]⟩, fun v H2 ⟨T, x, y, o, e1, nT, e2, oc, z1, z2⟩ => ?_⟩
  subst e1 e2
  refine ⟨upd F' T (.frz o (.tup [x, y])), bs.alloc nT _, fun d hd => ?_⟩
  obtain ⟨u, w, h1, h2, rfl⟩ := zpD_get hd
  obtain ⟨v1, q1, q2⟩ := (r.mono l).get h1
  obtain ⟨v2, q3, q4⟩ := (r'.mono l).get h2
  have t1 := z1 xs hq
  have t2 := z2 ys hq'
  rw [q1] at t1; cases t1
  rw [q3] at t2; cases t2
  exact ⟨T, _, rfl, FrT.new oc.1 oc.2, _, _, rfl, q2.mono (.new (bs.sub.none nT)), _, _, rfl, q4.mono (.new (bs.sub.none nT)), rfl⟩
def tZpI (ta tb : DT) : DA := fun ρ Q => ta ρ fun x => tb ρ fun y => match x, y with | .tuple xs, .tuple ys => Q (zpD xs ys) | _, _ => False
/-! ### a zip of two tuples whose pairs are bound to a name -/
abbrev ZS (h : Heap) (z TI TO : Addr) (u : Value) (f : Bool) : Prop :=
  h.get? z = some { cls := .type "zip", dict := none, data := .fields #[u, .bool f, .bool false, .ref TI, .ref TO], slots := #[] }
def Out (u : Value) : Prop := u = .none ∨ ∃ T : Addr, u = rawInt T
section
variable {prog : Program} {w : World} {A : Around} {E : Value → Shared → Prop} {s : Shared}
theorem zs_free {z TI TO : Addr} {u : Value} {f : Bool} {Q : Bool → Shared → Prop} (hz : ZS s.heap z TI TO u f) (hu : Out u) (h1 : Q true s)
    (h2 : ∀ h' (T : Addr), ZS h' z TI TO (rawInt T) true → Heap.SameBut z s.heap h' → Q false { s with heap := h' }) : wpAny (model prog w) A (Builtin.SmallTypes.ownedTupleIsFree (.ref z)) Q E s := by
  rcases hu with rfl | ⟨T, rfl⟩
  · unfold Builtin.SmallTypes.ownedTupleIsFree
    exact wpAny_bind (wpAny_field hz rfl (x := .none) rfl (wpAny_pure h1))
  · cases hT : s.heap.get? T with
    | some oT => exact wpAny_tupleHeld_zip hz hT fun h' a b => h2 h' T a b
    | none =>
      unfold Builtin.SmallTypes.ownedTupleIsFree
      refine wpAny_bind (wpAny_field hz rfl (x := rawInt T) rfl ?_)
      show wpAny _ _ (loadIfAlive ((T : Int).toNat) >>= _) _ _ _
      rw [Int.toNat_natCast]
      have hl : ∀ (Q : Option Obj → Shared → Prop), Q none s → wpAny (model prog w) A (loadIfAlive T) Q E s := fun Q h => by
        have h' : Q (s.heap.get? T) s := by rw [hT]; exact h
        exact fun _ _ _ => h'
      refine wpAny_bind (hl _ ?_)
      simp only [Option.isNone_none, if_true]
      exact wpAny_pure h1
theorem zs_item {z TI TO i1 i2 l1 l2 : Addr} {k1 k2 : Nat} {xs ys : Array Value} {x y a b u : Value} {f : Bool} {Q : Value → Shared → Prop} (D : ZipApart z TI TO i1 i2 l1 l2)
    (hz : ZS s.heap z TI TO u f) (hu : Out u) (hTI : IsPair s.heap TI (.ref i1) (.ref i2)) (hTO : IsPair s.heap TO a b)
    (h1 : s.heap.IsTupleIter i1 l1 k1) (h2 : s.heap.IsTupleIter i2 l2 k2) (hl1 : s.heap.IsTuple l1 xs) (hl2 : s.heap.IsTuple l2 ys) (hx : xs[k1]? = some x) (hy : ys[k2]? = some y)
    (hQ : ∀ h' (T : Addr) f' a' b', ZS h' z TI TO (rawInt T) f' → IsPair h' TO a' b' → h'.IsTupleIter i1 l1 (k1 + 1) → h'.IsTupleIter i2 l2 (k2 + 1) → IsPair h' s.heap.objs.size x y → h'.objs.size = s.heap.objs.size + 1 →
      (∀ c o, c ≠ z → c ≠ TO → c ≠ i1 → c ≠ i2 → s.heap.get? c = some o → h'.get? c = some o) → Q (.ref s.heap.objs.size) { s with heap := h' }) :
    wpAny (model prog w) A (Builtin.«zip.__next__» ⟨[.ref z], []⟩) (fun fin s' => ∃ v, fin = .done (.ret v) ∧ Q v s') E s := by
  show wpAny _ _ (field (.ref z) 2 >>= _) _ _ _
  refine wpAny_bind (wpAny_field hz rfl (x := .bool false) rfl ?_)
  show wpAny _ _ (field (.ref z) 3 >>= _) _ _ _
  refine wpAny_bind (wpAny_field hz rfl (x := .ref TI) rfl ?_)
  refine wpAny_bind (wpAny_seqItems hTI rfl ?_)
  show wpAny _ _ (Builtin.SmallTypes.ownedTupleIsFree (.ref z) >>= _) _ _ _
  refine wpAny_bind (zs_free hz hu ?_ fun h₁ T hz₁ hs₁ => ?_)
  · simp only [if_true]
    refine wpAny_bind (wpAny_rule ?_)
    refine wpAny_bind (wpAny_field hz rfl (x := .ref TO) rfl ?_)
    refine wpAny_bind (wpAny_setField_rec hz (by simp) fun g₁ hz₁ hs₁ => ?_)
    replace hz₁ : ZS g₁ z TI TO .ellipsis f := hz₁
    refine wpAny_bind ?_
    simp only [List.zipIdx_cons, List.zipIdx_nil, List.forIn_cons, List.forIn_nil]
    refine wpAny_bind (wpAny_bind (wpAny_onRaise ?_))
    show wpAny _ _ (Builtin.SmallTypes.nextOf (.ref i1) >>= _) _ _ _
    refine wpAny_bind (RZ.nextOf_tuple_item (h1.extBut hs₁.extBut D.i1z) (hl1.extBut hs₁.extBut D.l1z) hx fun g₂ n1 hs₂ => wpAny_pure ?_)
    have hp2 : IsPair g₂ TO a b := hs₂.extBut _ _ D.TOi1 (hs₁.extBut _ _ D.TOz hTO)
    refine wpAny_bind (wpAny_seqItems hp2 rfl ?_)
    refine wpAny_bind (wpAny_updateSeq_pair hp2 fun g₃ hp3 hs₃ => ?_)
    replace hp3 : IsPair g₃ TO x b := hp3
    refine wpAny_bind (wpAny_letGo (wpAny_pure ?_))
    refine wpAny_bind (wpAny_bind (wpAny_onRaise ?_))
    show wpAny _ _ (Builtin.SmallTypes.nextOf (.ref i2) >>= _) _ _ _
    refine wpAny_bind (RZ.nextOf_tuple_item (((h2.extBut hs₁.extBut D.i2z).extBut hs₂.extBut D.i12.symm).extBut hs₃.extBut D.TOi2.symm)
      (((hl2.extBut hs₁.extBut D.l2z).extBut hs₂.extBut D.l2i1).extBut hs₃.extBut D.l2TO) hy fun g₄ n2 hs₄ => wpAny_pure ?_)
    have hp4 : IsPair g₄ TO x b := hs₄.extBut _ _ D.TOi2 hp3
    refine wpAny_bind (wpAny_seqItems hp4 rfl ?_)
    refine wpAny_bind (wpAny_updateSeq_pair hp4 fun g₅ hp5 hs₅ => ?_)
    replace hp5 : IsPair g₅ TO x y := hp5
    refine wpAny_bind (wpAny_letGo (wpAny_pure (wpAny_pure ?_)))
    refine wpAny_bind (wpAny_seqItems hp5 rfl ?_)
    refine wpAny_bind (wpAny_newTuple ?_)
    have hsz : g₅.objs.size = s.heap.objs.size := by rw [hs₅.1, hs₄.1, hs₃.1, hs₂.1, hs₁.1]
    have hz₅ : ZS g₅ z TI TO .ellipsis f := hs₅.extBut _ _ D.TOz.symm (hs₄.extBut _ _ D.i2z.symm (hs₃.extBut _ _ D.TOz.symm (hs₂.extBut _ _ D.i1z.symm hz₁)))
    have hk₅ : ∀ c o, c ≠ z → c ≠ TO → c ≠ i1 → c ≠ i2 → s.heap.get? c = some o → g₅.get? c = some o := fun c o c1 c2 c3 c4 e =>
      hs₅.extBut _ _ c2 (hs₄.extBut _ _ c4 (hs₃.extBut _ _ c2 (hs₂.extBut _ _ c3 (hs₁.extBut _ _ c1 e))))
    have m1 : g₅.IsTupleIter i1 l1 (k1 + 1) := ((n1.extBut hs₃.extBut D.TOi1.symm).extBut hs₄.extBut D.i12).extBut hs₅.extBut D.TOi1.symm
    have m2 : g₅.IsTupleIter i2 l2 (k2 + 1) := n2.extBut hs₅.extBut D.TOi2.symm
    have hzlt : z < g₅.objs.size := Heap.lt_size hz₅
    show wpAny _ _ (Builtin.SmallTypes.ownedTupleHandOut (.ref z) (.ref g₅.objs.size) >>= _) _ _ _
    refine wpAny_bind ?_
    unfold Builtin.SmallTypes.ownedTupleHandOut
    have hz₆ : ZS (g₅.push { cls := .type "tuple", data := .seq #[x, y] }) z TI TO .ellipsis f := Heap.get?_push_of_some _ hz₅
    refine wpAny_bind (wpAny_setField_rec hz₆ (by simp) fun h₇ hz₇ hs₇ => ?_)
    replace hz₇ : ZS h₇ z TI TO (rawInt g₅.objs.size) f := hz₇
    refine wpAny_setField_rec hz₇ (by simp) fun h₈ hz₈ hs₈ => ?_
    replace hz₈ : ZS h₈ z TI TO (rawInt g₅.objs.size) false := hz₈
    have up : ∀ c o, c ≠ z → g₅.get? c = some o → h₈.get? c = some o := fun c o c1 e => hs₈.extBut _ _ c1 (hs₇.extBut _ _ c1 (Heap.get?_push_of_some _ e))
    have hT₈ : IsPair h₈ g₅.objs.size x y := hs₈.extBut _ _ (Nat.ne_of_gt hzlt) (hs₇.extBut _ _ (Nat.ne_of_gt hzlt) (Heap.get?_push_size _ rfl))
    have hz8 : h₈.objs.size = g₅.objs.size + 1 := by rw [hs₈.1, hs₇.1, Heap.size_push]
    rw [hsz] at hz₈ hT₈ hz8
    refine wpAny_pure ⟨_, rfl, ?_⟩
    show Q (.ref g₅.objs.size) _
    rw [hsz]
    exact hQ h₈ _ _ _ _ hz₈ (up _ _ D.TOz hp5) (m1.at fun o e => up _ o D.i1z e) (m2.at fun o e => up _ o D.i2z e) hT₈ hz8 fun c o c1 c2 c3 c4 e => up c o c1 (hk₅ c o c1 c2 c3 c4 e)
  · simp only [Bool.false_eq_true, if_false]
    refine wpAny_bind ?_
    rw [← Array.forIn_toList]
    simp only [List.forIn_cons, List.forIn_nil]
    refine wpAny_bind (wpAny_bind (wpAny_holding ?_))
    show wpAny _ _ (Builtin.SmallTypes.nextOf (.ref i1) >>= _) _ _ _
    refine wpAny_bind (RZ.nextOf_tuple_item (s := { s with heap := h₁ }) (h1.extBut hs₁.extBut D.i1z) (hl1.extBut hs₁.extBut D.l1z) hx fun h₂ n1 hs₂ => wpAny_pure ?_)
    refine wpAny_pure ?_
    refine wpAny_bind (wpAny_bind (wpAny_holding ?_))
    show wpAny _ _ (Builtin.SmallTypes.nextOf (.ref i2) >>= _) _ _ _
    refine wpAny_bind (RZ.nextOf_tuple_item (s := { s with heap := h₂ }) ((h2.extBut hs₁.extBut D.i2z).extBut hs₂.extBut D.i12.symm) ((hl2.extBut hs₁.extBut D.l2z).extBut hs₂.extBut D.l2i1) hy fun h₃ n2 hs₃ => wpAny_pure ?_)
    refine wpAny_pure (wpAny_pure ?_)
    show wpAny _ _ (newTuple [x, y] >>= _) _ _ _
    refine wpAny_bind (wpAny_newTuple ?_)
    have hsz : h₃.objs.size = s.heap.objs.size := by rw [hs₃.1, hs₂.1, hs₁.1]
    have hz₃ : ZS h₃ z TI TO (rawInt T) true := hs₃.extBut _ _ D.i2z.symm (hs₂.extBut _ _ D.i1z.symm hz₁)
    have hp3 : IsPair h₃ TO a b := hs₃.extBut _ _ D.TOi2 (hs₂.extBut _ _ D.TOi1 (hs₁.extBut _ _ D.TOz hTO))
    have hk : ∀ c o, c ≠ z → c ≠ i1 → c ≠ i2 → s.heap.get? c = some o → h₃.get? c = some o := fun c o c1 c2 c3 e => hs₃.extBut _ _ c3 (hs₂.extBut _ _ c2 (hs₁.extBut _ _ c1 e))
    have m1 : h₃.IsTupleIter i1 l1 (k1 + 1) := n1.extBut hs₃.extBut D.i12
    refine wpAny_pure ⟨_, rfl, ?_⟩
    show Q (.ref h₃.objs.size) _
    have hp : IsPair (h₃.push { cls := .type "tuple", data := .seq #[x, y] }) h₃.objs.size x y := Heap.get?_push_size _ rfl
    have hz4 : (h₃.push { cls := .type "tuple", data := .seq #[x, y] }).objs.size = h₃.objs.size + 1 := Heap.size_push ..
    rw [hsz] at hp hz4 ⊢
    exact hQ _ _ _ _ _ (Heap.get?_push_of_some _ hz₃) (Heap.get?_push_of_some _ hp3) (m1.at fun o e => Heap.get?_push_of_some _ e) (n2.at fun o e => Heap.get?_push_of_some _ e) hp hz4 fun c o c1 _ c2 c3 e => Heap.get?_push_of_some _ (hk c o c1 c2 c3 e)
theorem zs_end {z TI TO i1 i2 l1 l2 : Addr} {k1 k2 : Nat} {xs ys : Array Value} {a b u : Value} {f : Bool} {Q : Fin → Shared → Prop} (hh : A.handled = none) (D : ZipApart z TI TO i1 i2 l1 l2)
    (hz : ZS s.heap z TI TO u f) (hu : Out u) (hTI : IsPair s.heap TI (.ref i1) (.ref i2)) (hTO : IsPair s.heap TO a b)
    (h1 : s.heap.IsTupleIter i1 l1 k1) (h2 : s.heap.IsTupleIter i2 l2 k2) (hl1 : s.heap.IsTuple l1 xs) (hl2 : s.heap.IsTuple l2 ys) (hend : xs[k1]? = none ∨ ys[k2]? = none)
    (hE : ∀ h' e, (∀ c o, c ≠ z → c ≠ TO → c ≠ i1 → c ≠ i2 → s.heap.get? c = some o → h'.get? c = some o) → (∃ o, h'.get? e = some o ∧ o.cls = .type "StopIteration") → E (.ref e) { s with heap := h' }) :
    wpAny (model prog w) A (Builtin.«zip.__next__» ⟨[.ref z], []⟩) Q E s := by
  show wpAny _ _ (field (.ref z) 2 >>= _) _ _ _
  refine wpAny_bind (wpAny_field hz rfl (x := .bool false) rfl ?_)
  show wpAny _ _ (field (.ref z) 3 >>= _) _ _ _
  refine wpAny_bind (wpAny_field hz rfl (x := .ref TI) rfl ?_)
  refine wpAny_bind (wpAny_seqItems hTI rfl ?_)
  show wpAny _ _ (Builtin.SmallTypes.ownedTupleIsFree (.ref z) >>= _) _ _ _
  refine wpAny_bind (zs_free hz hu ?_ fun h₁ T hz₁ hs₁ => ?_)
  · simp only [if_true]
    refine wpAny_bind (wpAny_rule ?_)
    refine wpAny_bind (wpAny_field hz rfl (x := .ref TO) rfl ?_)
    refine wpAny_bind (wpAny_setField_rec hz (by simp) fun h₁ hz₁ hs₁ => ?_)
    replace hz₁ : ZS h₁ z TI TO .ellipsis f := hz₁
    refine wpAny_bind ?_
    simp only [List.zipIdx_cons, List.zipIdx_nil, List.forIn_cons, List.forIn_nil]
    refine wpAny_bind (wpAny_bind (wpAny_onRaise ?_))
    show wpAny _ _ (Builtin.SmallTypes.nextOf (.ref i1) >>= _) _ _ _
    cases hx : xs[k1]? with
    | none =>
      refine wpAny_bind (RZ.nextOf_tuple_end hh (h1.extBut hs₁.extBut D.i1z) (hl1.extBut hs₁.extBut D.l1z) hx fun h₂ e hs₂ he => ?_)
      obtain ⟨oe, hoe, hce⟩ := he
      have hz₂ : ZS h₂ z TI TO .ellipsis f := hs₂ _ _ D.i1z.symm hz₁
      have hez : e ≠ z := fun x => by subst x; rw [hz₂] at hoe; cases hoe; simp at hce
      refine wpAny_setField_rec hz₂ (by simp) fun h₃ _ hs₃ => hE h₃ e (fun c o c1 _ c3 _ x => hs₃.extBut _ _ c1 (hs₂ _ _ c3 (hs₁.extBut _ _ c1 x))) ⟨oe, hs₃.extBut _ _ hez hoe, hce⟩
    | some x =>
      have hy : ys[k2]? = none := by rcases hend with h | h; rw [hx] at h; cases h; exact h
      refine wpAny_bind (RZ.nextOf_tuple_item (h1.extBut hs₁.extBut D.i1z) (hl1.extBut hs₁.extBut D.l1z) hx fun h₂ n1 hs₂ => wpAny_pure ?_)
      have hp2 : IsPair h₂ TO a b := hs₂.extBut _ _ D.TOi1 (hs₁.extBut _ _ D.TOz hTO)
      refine wpAny_bind (wpAny_seqItems hp2 rfl ?_)
      refine wpAny_bind (wpAny_updateSeq_pair hp2 fun h₃ hTO₃ hs₃ => ?_)
      refine wpAny_bind (wpAny_letGo (wpAny_pure ?_))
      refine wpAny_bind (wpAny_bind (wpAny_onRaise ?_))
      show wpAny _ _ (Builtin.SmallTypes.nextOf (.ref i2) >>= _) _ _ _
      refine wpAny_bind (RZ.nextOf_tuple_end hh (((h2.extBut hs₁.extBut D.i2z).extBut hs₂.extBut D.i12.symm).extBut hs₃.extBut D.TOi2.symm)
        (((hl2.extBut hs₁.extBut D.l2z).extBut hs₂.extBut D.l2i1).extBut hs₃.extBut D.l2TO) hy fun h₄ e hs₄ he => ?_)
      obtain ⟨oe, hoe, hce⟩ := he
      have hz₄ : ZS h₄ z TI TO .ellipsis f := hs₄ _ _ D.i2z.symm (hs₃.extBut _ _ D.TOz.symm (hs₂.extBut _ _ D.i1z.symm hz₁))
      have hez : e ≠ z := fun x => by subst x; rw [hz₄] at hoe; cases hoe; simp at hce
      refine wpAny_setField_rec hz₄ (by simp) fun h₅ _ hs₅ => hE h₅ e (fun c o c1 c2 c3 c4 x => hs₅.extBut _ _ c1 (hs₄ _ _ c4 (hs₃.extBut _ _ c2 (hs₂.extBut _ _ c3 (hs₁.extBut _ _ c1 x))))) ⟨oe, hs₅.extBut _ _ hez hoe, hce⟩
  · simp only [Bool.false_eq_true, if_false]
    refine wpAny_bind ?_
    rw [← Array.forIn_toList]
    simp only [List.forIn_cons, List.forIn_nil]
    refine wpAny_bind (wpAny_bind (wpAny_holding ?_))
    show wpAny _ _ (Builtin.SmallTypes.nextOf (.ref i1) >>= _) _ _ _
    cases hx : xs[k1]? with
    | none =>
      refine wpAny_bind (RZ.nextOf_tuple_end (s := { s with heap := h₁ }) hh (h1.extBut hs₁.extBut D.i1z) (hl1.extBut hs₁.extBut D.l1z) hx fun h₂ e hs₂ he => ?_)
      exact hE h₂ e (fun c o c1 _ c2 _ x => hs₂ _ _ c2 (hs₁.extBut _ _ c1 x)) he
    | some x =>
      have hy : ys[k2]? = none := by rcases hend with h | h; rw [hx] at h; cases h; exact h
      refine wpAny_bind (RZ.nextOf_tuple_item (s := { s with heap := h₁ }) (h1.extBut hs₁.extBut D.i1z) (hl1.extBut hs₁.extBut D.l1z) hx fun h₂ n1 hs₂ => wpAny_pure ?_)
      refine wpAny_pure ?_
      refine wpAny_bind (wpAny_bind (wpAny_holding ?_))
      show wpAny _ _ (Builtin.SmallTypes.nextOf (.ref i2) >>= _) _ _ _
      refine wpAny_bind (RZ.nextOf_tuple_end (s := { s with heap := h₂ }) hh ((h2.extBut hs₁.extBut D.i2z).extBut hs₂.extBut D.i12.symm) ((hl2.extBut hs₁.extBut D.l2z).extBut hs₂.extBut D.l2i1) hy fun h₃ e hs₃ he => ?_)
      exact hE h₃ e (fun c o c1 _ c2 c3 x => hs₃ _ _ c3 (hs₂.extBut _ _ c2 (hs₁.extBut _ _ c1 x))) he
theorem pyNext_zs_item {z TI TO i1 i2 l1 l2 : Addr} {k1 k2 : Nat} {xs ys : Array Value} {x y a b u : Value} {f : Bool} {Q : Option Value → Shared → Prop} (D : ZipApart z TI TO i1 i2 l1 l2)
    (hz : ZS s.heap z TI TO u f) (hu : Out u) (hTI : IsPair s.heap TI (.ref i1) (.ref i2)) (hTO : IsPair s.heap TO a b)
    (h1 : s.heap.IsTupleIter i1 l1 k1) (h2 : s.heap.IsTupleIter i2 l2 k2) (hl1 : s.heap.IsTuple l1 xs) (hl2 : s.heap.IsTuple l2 ys) (hx : xs[k1]? = some x) (hy : ys[k2]? = some y)
    (hQ : ∀ h' (T : Addr) f' a' b', ZS h' z TI TO (rawInt T) f' → IsPair h' TO a' b' → h'.IsTupleIter i1 l1 (k1 + 1) → h'.IsTupleIter i2 l2 (k2 + 1) → IsPair h' s.heap.objs.size x y → h'.objs.size = s.heap.objs.size + 1 →
      (∀ c o, c ≠ z → c ≠ TO → c ≠ i1 → c ≠ i2 → s.heap.get? c = some o → h'.get? c = some o) → Q (some (.ref s.heap.objs.size)) { s with heap := h' }) :
    wpAny (model prog w) A (pyNext (.ref z)) Q E s := by
  have hT : s.TypeIs (.ref z) "zip" := ⟨_, hz, rfl⟩
  unfold pyNext
  exact wpAny_bind (wpAny_attempt (wpAny_callSpecial?_slot (name := Str.ofString "__next__") hT F.slot_zip_next
    (wpAny_call_entry F.slot_zip_next hT F.entry_zip_next
      (zs_item D hz hu hTI hTO h1 h2 hl1 hl2 hx hy fun h' T f' a' b' a1 a2 a3 a4 a5 a6 a7 => wpAny_pure (hQ h' T f' a' b' a1 a2 a3 a4 a5 a6 a7)) (F.args_zip_next_1 _))))
theorem pyNext_zs_end {z TI TO i1 i2 l1 l2 : Addr} {k1 k2 : Nat} {xs ys : Array Value} {a b u : Value} {f : Bool} {Q : Option Value → Shared → Prop} (hh : A.handled = none) (D : ZipApart z TI TO i1 i2 l1 l2)
    (hz : ZS s.heap z TI TO u f) (hu : Out u) (hTI : IsPair s.heap TI (.ref i1) (.ref i2)) (hTO : IsPair s.heap TO a b)
    (h1 : s.heap.IsTupleIter i1 l1 k1) (h2 : s.heap.IsTupleIter i2 l2 k2) (hl1 : s.heap.IsTuple l1 xs) (hl2 : s.heap.IsTuple l2 ys) (hend : xs[k1]? = none ∨ ys[k2]? = none)
    (hQ : ∀ h', (∀ c o, c ≠ z → c ≠ TO → c ≠ i1 → c ≠ i2 → s.heap.get? c = some o → h'.get? c = some o) → Q none { s with heap := h' }) : wpAny (model prog w) A (pyNext (.ref z)) Q E s := by
  have hT : s.TypeIs (.ref z) "zip" := ⟨_, hz, rfl⟩
  unfold pyNext
  refine wpAny_bind (wpAny_attempt (wpAny_callSpecial?_slot (name := Str.ofString "__next__") hT F.slot_zip_next
    (wpAny_call_entry F.slot_zip_next hT F.entry_zip_next (zs_end hh D hz hu hTI hTO h1 h2 hl1 hl2 hend fun h' e hk he => ?_) (F.args_zip_next_1 _))))
  obtain ⟨o, ho, hc⟩ := he
  refine wpAny_bind (wpAny_isInstance (T := "StopIteration") (b := true) ⟨o, ho, hc⟩ isSubtype_stop ?_)
  exact wpAny_pure (hQ _ hk)
end
theorem turn_zipF {P : Program} {w : World} {K : PySem.W.Frag} {elts : List Expr} {kk : Nat} {tpos : Pos} {a b z TI TO i1 i2 : Addr} (D : ZipApart z TI TO i1 i2 a b) :
    Turn P w K (.Tuple elts kk tpos) (ItzF K a b) [z, TI, TO, i1, i2] z (fun i h => IsZip h z TI TO .none ∧ IsPair h TI (.ref i1) (.ref i2) ∧ (∃ x y, IsPair h TO x y) ∧ h.IsTupleIter i1 a i ∧ h.IsTupleIter i2 b i) where
  mem := (RZ.turn_zipT (P := P) (w := w) (K := K) (elts := elts) (kk := kk) (tpos := tpos) D).mem
  obj := (RZ.turn_zipT (P := P) (w := w) (K := K) (elts := elts) (kk := kk) (tpos := tpos) D).obj
  keep := (RZ.turn_zipT (P := P) (w := w) (K := K) (elts := elts) (kk := kk) (tpos := tpos) D).keep
  done := (RZ.turn_zipT (P := P) (w := w) (K := K) (elts := elts) (kk := kk) (tpos := tpos) D).done
  self := (RZ.turn_zipT (P := P) (w := w) (K := K) (elts := elts) (kk := kk) (tpos := tpos) D).self
  item := by
    rintro X rfl rfl rfl hc i pins s σ H E I free ⟨isZ, isTI, ⟨p0, p1, isTO⟩, it1, it2⟩ ⟨xs, ys, x, y, sq1, sq2, at1, at2⟩
    obtain ⟨its, rv, tp, _⟩ := I.tuple sq1
    obtain ⟨its2, rv2, tp2, _⟩ := I.tuple sq2
    obtain ⟨u, atu, ru⟩ := rv.get at1
    obtain ⟨u2, atu2, ru2⟩ := rv2.get at2
    have szZ := Heap.lt_size isZ
    refine RZ.pyNext_zipT_item D isZ isTI isTO it1 it2 tp tp2 (x := u) (y := u2) (by simpa using atu) (by simpa using atu2) fun h1 z1 to1 n1 n2 new1 _ same1 => ?_
    refine ⟨_, rfl, wpAny_letOwnedTupleGo_zip (s := { s with heap := h1 }) z1 fun h2 z2 same2 => ?_⟩
    have new2 : h2.get? s.heap.objs.size = some { cls := .type "tuple", data := .seq #[u, u2] } := (same2.2 _ (Nat.ne_of_gt szZ)).trans new1
    have cell : ObjOk X.prog X.w (upd H s.heap.objs.size (.frz { cls := .type "tuple", data := .seq #[u, u2] } (.tup [x, y]))) h2 s.heap.objs.size (.frz { cls := .type "tuple", data := .seq #[u, u2] } (.tup [x, y])) :=
      ⟨new2, by show 2 ≤ sizeLine; decide, [u, u2], .cons ru (.cons ru2 .nil), ⟨_, new2, rfl, _, rfl⟩⟩
    have I2 : Inv X pins σ _ { s with heap := h2 } := I.turnedNew (t' := s.toks) (ch := [z, TI, TO, i1, i2]) (fun c ob out q => by
      have c1 : c ≠ z := fun e => out (by simp [e])
      have c2 : c ≠ TO := fun e => out (by simp [e])
      have c3 : c ≠ i1 := fun e => out (by simp [e])
      have c4 : c ≠ i2 := fun e => out (by simp [e])
      exact (same2.2 c c1).trans (same1 c ob c1 c2 c3 c4 q)) free (Nat.le_refl _) cell
    refine ⟨.ref s.heap.objs.size, _, I2, rfl, ⟨_, x, y, _, rfl, I.hok.fresh (Nat.le_refl _), rfl, ⟨rfl, rfl⟩, fun l hl => by rw [I.tuple_inj hl sq1]; exact at1, fun l hl => by rw [I.tuple_inj hl sq2]; exact at2⟩, ⟨z2, ?_, ⟨u, u2, ?_⟩, ?_, ?_⟩, fun c hcm => ?_⟩
    · exact (same2.2 _ D.TIz).trans (same1 _ _ D.TIz D.TITO D.TIi1 D.TIi2 isTI)
    · exact (same2.2 _ D.TOz).trans to1
    · exact n1.at fun o q => (same2.2 _ D.i1z).trans q
    · exact n2.at fun o q => (same2.2 _ D.i2z).trans q
    · have below : c < s.heap.objs.size := by
        have e' : c = z ∨ c = TI ∨ c = TO ∨ c = i1 ∨ c = i2 := by simpa using hcm
        rcases e' with q | q | q | q | q
        · rw [q]; exact szZ
        · rw [q]; exact Heap.lt_size isTI
        · rw [q]; exact Heap.lt_size isTO
        · rw [q]; obtain ⟨_, e1, _⟩ := it1; exact Heap.lt_size e1
        · rw [q]; obtain ⟨_, e2, _⟩ := it2; exact Heap.lt_size e2
      rw [upd_ne (Nat.ne_of_lt below)]
      exact (free c hcm).1
theorem turn_zipN {P : Program} {w : World} {K : PySem.W.Frag} {x : Str} {tpos : Pos} {a b z TI TO i1 i2 : Addr} (D : ZipApart z TI TO i1 i2 a b) :
    Turn P w K (.Name x tpos) (ItzF K a b) [z, TI, TO, i1, i2] z (fun i h => (∃ u f, Out u ∧ ZS h z TI TO u f) ∧ IsPair h TI (.ref i1) (.ref i2) ∧ (∃ x y, IsPair h TO x y) ∧ h.IsTupleIter i1 a i ∧ h.IsTupleIter i2 b i) where
  mem := by simp
  obj := fun i h st c hc => by
    obtain ⟨⟨u, f, hu, hz⟩, hTI, ⟨x, y, hTO⟩, ⟨o1, e1, _, d1⟩, ⟨o2, e2, _, d2⟩⟩ := st
    have e' : c = z ∨ c = TI ∨ c = TO ∨ c = i1 ∨ c = i2 := by simpa using hc
    rcases e' with q | q | q | q | q
    · rw [q]; exact ⟨_, hz, fun v q => nomatch q⟩
    · rw [q]; exact ⟨_, hTI, fun v q => nomatch q⟩
    · rw [q]; exact ⟨_, hTO, fun v q => nomatch q⟩
    · rw [q]; exact ⟨o1, e1, fun v q => by rw [d1] at q; cases q⟩
    · rw [q]; exact ⟨o2, e2, fun v q => by rw [d2] at q; cases q⟩
  keep := fun i h h' st k => by
    obtain ⟨⟨u, f, hu, hz⟩, hTI, ⟨x, y, hTO⟩, h1, h2⟩ := st
    exact ⟨⟨u, f, hu, k z (by simp) _ hz⟩, k TI (by simp) _ hTI, ⟨x, y, k TO (by simp) _ hTO⟩, h1.at fun o q => k i1 (by simp) o q, h2.at fun o q => k i2 (by simp) o q⟩
  item := by
    intro X hP hw hK hc i pins s σ H E I hf st hg
    subst hP hw hK
    obtain ⟨⟨u0, f0, hu0, hz⟩, hTI, ⟨x0, y0, hTO⟩, h1, h2⟩ := st
    obtain ⟨xs, ys, x, y, hqx, hqy, hx, hy⟩ := hg
    obtain ⟨its, rv, p, _⟩ := I.tuple hqx
    obtain ⟨its2, rv2, p2, _⟩ := I.tuple hqy
    obtain ⟨u, hu, ru⟩ := rv.get hx
    obtain ⟨u2, hu2, ru2⟩ := rv2.get hy
    have hzl : z < s.heap.objs.size := Heap.lt_size hz
    refine pyNext_zs_item D hz hu0 hTI hTO h1 h2 p p2 (x := u) (y := u2) (by simpa using hu) (by simpa using hu2) fun h' T f' a' b' z' TO' h1' h2' hT hsz hk => ?_
    have new : ObjOk X.prog X.w (upd H s.heap.objs.size (.frz { cls := .type "tuple", data := .seq #[u, u2] } (.tup [x, y]))) h' s.heap.objs.size (.frz { cls := .type "tuple", data := .seq #[u, u2] } (.tup [x, y])) :=
      ⟨hT, by show 2 ≤ sizeLine; decide, [u, u2], .cons ru (.cons ru2 .nil), ⟨_, hT, rfl, _, rfl⟩⟩
    have I1 : Inv X pins σ (upd H s.heap.objs.size (.frz { cls := .type "tuple", data := .seq #[u, u2] } (.tup [x, y]))) { s with heap := h' } :=
      I.turnedNew (t' := s.toks) (ch := [z, TI, TO, i1, i2]) (fun c o hb q => hk c o (fun q' => hb (by simp [q'])) (fun q' => hb (by simp [q'])) (fun q' => hb (by simp [q'])) (fun q' => hb (by simp [q'])) q) hf (Nat.le_refl _) new
    refine ⟨_, rfl, wpAny_pure ⟨.ref s.heap.objs.size, _, I1, rfl, ⟨_, x, y, _, rfl, I.hok.fresh (Nat.le_refl _), rfl, ⟨rfl, rfl⟩, fun l hl => by rw [I.tuple_inj hl hqx]; exact hx, fun l hl => by rw [I.tuple_inj hl hqy]; exact hy⟩, ⟨⟨_, f', .inr ⟨T, rfl⟩, z'⟩, ?_, ⟨a', b', TO'⟩, h1', h2'⟩, fun c hcm => ?_⟩⟩
    · exact hk _ _ D.TIz D.TITO D.TIi1 D.TIi2 hTI
    · have hlt : c < s.heap.objs.size := by
        have e' : c = z ∨ c = TI ∨ c = TO ∨ c = i1 ∨ c = i2 := by simpa using hcm
        rcases e' with q | q | q | q | q
        · rw [q]; exact hzl
        · rw [q]; exact Heap.lt_size hTI
        · rw [q]; exact Heap.lt_size hTO
        · rw [q]; obtain ⟨_, e1, _⟩ := h1; exact Heap.lt_size e1
        · rw [q]; obtain ⟨_, e2, _⟩ := h2; exact Heap.lt_size e2
      rw [upd_ne (Nat.ne_of_lt hlt)]
      exact (hf c hcm).1
  done := by
    intro X hP hw hK hc i pins s σ H E I hf st hg
    subst hP hw hK
    obtain ⟨⟨u0, f0, hu0, hz⟩, hTI, ⟨x0, y0, hTO⟩, h1, h2⟩ := st
    obtain ⟨xs, ys, hqx, hqy, hend⟩ := hg
    obtain ⟨its, rv, p, _⟩ := I.tuple hqx
    obtain ⟨its2, rv2, p2, _⟩ := I.tuple hqy
    have l1 := rv.length
    have l2 := rv2.length
    have he : its.toArray[i]? = none ∨ its2.toArray[i]? = none := by
      rcases hend with q | q
      · exact .inl (by simp; omega)
      · exact .inr (by simp; omega)
    exact pyNext_zs_end (I.ok.hd hc) D hz hu0 hTI hTO h1 h2 p p2 he fun h' hk => ⟨rfl, I.turnedL (t' := s.toks) (ch := [z, TI, TO, i1, i2]) (fun c o hb q =>
      hk c o (fun q' => hb (by simp [q'])) (fun q' => hb (by simp [q'])) (fun q' => hb (by simp [q'])) (fun q' => hb (by simp [q'])) q) hf⟩
  self := fun A i s Q E st h => by
    obtain ⟨⟨u, f, hu, hz⟩, _⟩ := st
    have hT : s.TypeIs (.ref z) "zip" := ⟨_, hz, rfl⟩
    refine wpAny_pyIter_slot hT F.slot_zip_iter (wpAny_call_entry F.slot_zip_iter hT F.entry_zip_iter ?_ (F.args_zip_iter_1 _))
    show wpAny _ _ (ret (.ref z)) _ _ s
    exact wpAny_pure ⟨_, rfl, "zip", _, hT, F.slot_zip_next.lookup, h⟩
section
variable {X : Cx} {e : Ent} {M : List Md} {a b : Expr} {ta tb : DT} {p pos tpos : Pos} {x : Str}
def iZipN (K : PySem.W.Frag) (ta : TA) : TI := fun σ H R => ta σ H fun vs H1 => ∃ a b xs ys, vs = [.ref a, .ref b] ∧ SqT K H1 a xs ∧ SqT K H1 b ys ∧ R (ItzF K a b) H1
theorem pi_zipN {e e2 : Expr} {ta : TA} (hg : Gl X "zip") (hm : X.mg "zip" = none) (ha : PA X [e, e2] ta)
    (hs : starEach [e, e2] X.env = (false, eval e X.env) :: starEach [e2] X.env := by rfl) (hpl : (backTo pos (starEach [e2] X.env)).any (·.1) = false := by rfl) :
    PI X (.Name x tpos) (.Call (.Name "zip" p) [e, e2] [] pos) (iZipN X.K ta) := by
  refine ⟨fun pins s σ H R I h => ?_⟩
  refine Call_ (ld_blt I hg hm PyProof.Rows.boot_zip (PyProof.Rows.callWith_type1 (thn (ha.run pos pins s σ H _ I h) fun us s1 ⟨vs, H1, I1, r1, q1⟩ => ?_) hs hpl))
  obtain ⟨a, b, xs, ys, ex, hqx, hqy, q⟩ := q1
  subst ex
  cases r1 with
  | cons r rr =>
    cases rr with
    | cons r' rr =>
      cases rr
      cases r
      cases r'
      have fresh5 : ∀ c, c ∈ [s1.heap.objs.size + 4, s1.heap.objs.size + 2, s1.heap.objs.size + 3, s1.heap.objs.size, s1.heap.objs.size + 1] → FpOk X pins H1 c := fun c hcm => by
        have hle : s1.heap.objs.size ≤ c := by
          simp only [List.mem_cons, List.not_mem_nil, or_false] at hcm
          omega
        exact I1.fpOk hle (I1.hok.fresh hle)
      obtain ⟨its, rv, p1, _⟩ := I1.tuple hqx
      obtain ⟨its2, rv2, p2, _⟩ := I1.tuple hqy
      obtain ⟨o1, ho1, _⟩ := id p1
      obtain ⟨o2, ho2, _⟩ := id p2
      refine RZ.call_zipT (show s1.heap.IsTuple a its.toArray from p1) (show s1.heap.IsTuple b its2.toArray from p2) fun h' hz hTI hTO h1 h2 hsz hk => wpAny_pyIter_zip hz ?_
      have I2 : Inv X pins σ H1 { s1 with heap := h' } := I1.kept (t' := s1.toks) hk
      exact ⟨s1.heap.objs.size + 4, [s1.heap.objs.size + 4, s1.heap.objs.size + 2, s1.heap.objs.size + 3, s1.heap.objs.size, s1.heap.objs.size + 1], _, _, H1, rfl, I2, turn_zipN (PySem.W.ktu_apart s1.heap.objs.size a b (Heap.lt_size ho1) (Heap.lt_size ho2)), ⟨⟨_, false, .inl rfl, hz⟩, hTI, ⟨_, _, hTO⟩, h1, h2⟩, fresh5, q⟩
theorem di_zipN (hg : Gl X "zip") (hm : X.mg "zip" = none) (ha : DE X e M a ta) (hb : DE X e M b tb) (hs : starEach [a, b] X.env = (false, eval a X.env) :: starEach [b] X.env := by rfl) (hs2 : starEach [b] X.env = (false, eval b X.env) :: starEach [] X.env := by rfl) (hp : ((backTo pos (starEach [b] X.env)).any fun x => x.1) = false := by rfl) :
    DI X e M (.Name x tpos) (.Call (.Name "zip" p) [a, b] [] pos) (tZpI ta tb) :=
  ⟨pi_imp (pi_zipN hg hm (pa_cons ha.pe (pa_cons hb.pe pa_nil hs2) hs) hs hp) fun σ H R ⟨g, F, ρ, s, q⟩ => ⟨g, F, ρ, s, ha.mono ρ _ _ (fun d hd F1 H1 v t r => ⟨g, F1, ρ, s.step t, hb.mono ρ _ _ (fun d2 hd2 F2 H2 v2 t2 r2 => by
    split at hd2
    · obtain ⟨a1, xs, rfl, h1, rl⟩ := r
      obtain ⟨b1, ys, rfl, h2, rl2⟩ := r2
      have tt := t.trans t2
      exact ⟨a1, b1, xs, ys, rfl, t2.sub.sqT (t2.mono.frT h1), t2.sub.sqT h2, hd2 F2 H2 _ tt (wk_zipF (t2.mono.frT h1) (rl.mono t2.mono) h2 rl2)⟩
    · exact hd2.elim) hd⟩) q⟩, fun ρ Q Q' f q => ha.mono ρ _ _ (fun d q => hb.mono ρ _ _ (fun d2 q => by
    split at q
    · exact f _ q
    · exact q.elim) q) q⟩
def iZipF (K : PySem.W.Frag) (ta : TA) : TI := fun σ H R => ta σ H fun vs H1 => ∃ a b xs ys, vs = [.ref a, .ref b] ∧ SqT K H1 a xs ∧ SqT K H1 b ys ∧ R (ItzF K a b) H1
theorem pi_zipF {e e2 : Expr} {ta : TA} {elts : List Expr} {kk : Nat} (hg : Gl X "zip") (hm : X.mg "zip" = none) (ha : PA X [e, e2] ta)
    (hs : starEach [e, e2] X.env = (false, eval e X.env) :: starEach [e2] X.env := by rfl) (hpl : (backTo pos (starEach [e2] X.env)).any (·.1) = false := by rfl) :
    PI X (.Tuple elts kk tpos) (.Call (.Name "zip" p) [e, e2] [] pos) (iZipF X.K ta) := by
  refine ⟨fun pins s σ H R I h => ?_⟩
  refine Call_ (ld_blt I hg hm PyProof.Rows.boot_zip (PyProof.Rows.callWith_type1 (thn (ha.run pos pins s σ H _ I h) fun us s1 ⟨vs, H1, I1, r1, q1⟩ => ?_) hs hpl))
  obtain ⟨a, b, xs, ys, ex, hqx, hqy, q⟩ := q1
  subst ex
  cases r1 with
  | cons r rr =>
    cases rr with
    | cons r' rr =>
      cases rr
      cases r
      cases r'
      have fresh5 : ∀ c, c ∈ [s1.heap.objs.size + 4, s1.heap.objs.size + 2, s1.heap.objs.size + 3, s1.heap.objs.size, s1.heap.objs.size + 1] → FpOk X pins H1 c := fun c hcm => by
        have hle : s1.heap.objs.size ≤ c := by
          simp only [List.mem_cons, List.not_mem_nil, or_false] at hcm
          omega
        exact I1.fpOk hle (I1.hok.fresh hle)
      obtain ⟨its, rv, p1, _⟩ := I1.tuple hqx
      obtain ⟨its2, rv2, p2, _⟩ := I1.tuple hqy
      obtain ⟨o1, ho1, _⟩ := id p1
      obtain ⟨o2, ho2, _⟩ := id p2
      refine RZ.call_zipT (show s1.heap.IsTuple a its.toArray from p1) (show s1.heap.IsTuple b its2.toArray from p2) fun h' hz hTI hTO h1 h2 hsz hk => wpAny_pyIter_zip hz ?_
      have I2 : Inv X pins σ H1 { s1 with heap := h' } := I1.kept (t' := s1.toks) hk
      exact ⟨s1.heap.objs.size + 4, [s1.heap.objs.size + 4, s1.heap.objs.size + 2, s1.heap.objs.size + 3, s1.heap.objs.size, s1.heap.objs.size + 1], _, _, H1, rfl, I2, turn_zipF (PySem.W.ktu_apart s1.heap.objs.size a b (Heap.lt_size ho1) (Heap.lt_size ho2)), ⟨hz, hTI, ⟨_, _, hTO⟩, h1, h2⟩, fresh5, q⟩
theorem di_zip {elts : List Expr} {kk : Nat} (hg : Gl X "zip") (hm : X.mg "zip" = none) (ha : DE X e M a ta) (hb : DE X e M b tb) (hs : starEach [a, b] X.env = (false, eval a X.env) :: starEach [b] X.env := by rfl) (hs2 : starEach [b] X.env = (false, eval b X.env) :: starEach [] X.env := by rfl) (hp : ((backTo pos (starEach [b] X.env)).any fun x => x.1) = false := by rfl) :
    DI X e M (.Tuple elts kk tpos) (.Call (.Name "zip" p) [a, b] [] pos) (tZpI ta tb) :=
  ⟨pi_imp (pi_zipF hg hm (pa_cons ha.pe (pa_cons hb.pe pa_nil hs2) hs) hs hp) fun σ H R ⟨g, F, ρ, s, q⟩ => ⟨g, F, ρ, s, ha.mono ρ _ _ (fun d hd F1 H1 v t r => ⟨g, F1, ρ, s.step t, hb.mono ρ _ _ (fun d2 hd2 F2 H2 v2 t2 r2 => by
    split at hd2
    · obtain ⟨a1, xs, rfl, h1, rl⟩ := r
      obtain ⟨b1, ys, rfl, h2, rl2⟩ := r2
      have tt := t.trans t2
      exact ⟨a1, b1, xs, ys, rfl, t2.sub.sqT (t2.mono.frT h1), t2.sub.sqT h2, hd2 F2 H2 _ tt (wk_zipF (t2.mono.frT h1) (rl.mono t2.mono) h2 rl2)⟩
    · exact hd2.elim) hd⟩) q⟩, fun ρ Q Q' f q => ha.mono ρ _ _ (fun d q => hb.mono ρ _ _ (fun d2 q => by
    split at q
    · exact f _ q
    · exact q.elim) q) q⟩
end
end PP

set_option Elab.async false
set_option linter.all false
set_option maxRecDepth 100000
set_option maxHeartbeats 1000000
namespace PP
open PySem PySem.Spec PyProof.Rows L2
def topS (i : Nat) : Stmt := PySem.Challenge.pw_pilepass_k08_rows_of_blocks.main.body.getD i (.Pass ⟨0, 0, 0, 0⟩)
abbrev s_law_draw : Stmt := topS 11

theorem deck_stp {a b c : Addr} {F H H' : Hp} (bs : Bs (deckRg a b c) F H) (h : ∀ x, x ≠ a → x ≠ b → x ≠ c → H' x = H x) (ok : DeckIn a b c H') : Stp (deckRg a b c) F H F H' where
  mono := .refl _
  sub := fun x o e => by
    have n : ¬ (deckRg a b c).mem x := bs.nmem e
    have n1 : x ≠ a := fun z => n (.inl z)
    have n2 : x ≠ b := fun z => n (.inr (.inl z))
    have n3 : x ≠ c := fun z => n (.inr (.inr z))
    rw [h x n1 n2 n3]; exact bs.sub x o e
  new := fun x o e => .inl e
  keep := fun x o e n => by
    have n1 : x ≠ a := fun z => n (.inl z)
    have n2 : x ≠ b := fun z => n (.inr (.inl z))
    have n3 : x ≠ c := fun z => n (.inr (.inr z))
    rw [h x n1 n2 n3]; exact e
  ok := ok
def kDraw : KF := fun ds Q => match ds with
  | [_, .int b] => (0 < b ∧ b < 2 ^ 62) ∧ ∀ n, 0 ≤ n → n < b → Q (.int n)
  | _ => False
theorem kDraw_mono : MonoC kDraw := fun ds Q Q' f q => by
  unfold kDraw at q ⊢
  split at q
  · exact ⟨q.1, fun n h1 h2 => f _ (q.2 n h1 h2)⟩
  · exact q.elim
theorem sc_law_draw : FnScope ["deck", "bound", "rest", "cell", "mixed"] ["deck", "bound"] (defScope s_law_draw) := ⟨rfl, rfl, rfl, by decide +kernel, rfl, by decide +kernel, by decide +kernel⟩
theorem dp_ints {K : PySem.W.Frag} {H : Hp} {p : Addr} {gs : List Int} (h : H p = some (.lst (gs.map V.int))) : Dp K H (.ref p) (.list (gs.map PyData.int)) := by
  refine .lst (.inl (.inl h)) ?_
  clear h
  induction gs with
  | nil => exact .nil
  | cons g gs ih => exact .cons (.int _) ih
theorem sh_ints (gs : List Int) : SeqAt.shaped (.list (gs.map PyData.int)) = true := by
  have h1 : PyData.canLayAll0 (gs.map PyData.int) = true := by
    induction gs with
    | nil => rfl
    | cons g gs ih => simp [PyData.canLayAll0, PyData.canLay0, ih]
  have h2 : PyData.depthAll (gs.map PyData.int) ≤ 1 := by
    clear h1
    induction gs with
    | nil => simp [PyData.depthAll]
    | cons g gs ih => simp [PyData.depthAll, PyData.depth]; omega
  show (PyData.canLay0 (.list _) && decide (PyData.depth (.list _) ≤ 64)) = true
  simp [PyData.canLay0, h1, PyData.depth]
  omega
theorem eqv_nil (gs : List Int) : PyData.eqv (.list (gs.map PyData.int)) (.list []) = gs.isEmpty := by
  cases gs <;> simp [PyData.eqv, PyData.eqvAll]
section
variable {P : Program} {w : World} {K : PySem.W.Frag} {mg : Str → Option Value} {base : Heap}
theorem ok_law_draw {f : Addr} {fd : FuncData} (F : Fun K "_law_draw" "_law_draw" s_law_draw f fd) (mi : mg "int" = none) (ml : mg "len" = none) : FnOk P w K mg base CX0 1 f fd ["deck", "bound"] (spD K [.dk, .val] kDraw) := by
  refine F.ok sc_law_draw (fun vs H Q E ⟨g, F, ds, bs, a, _⟩ => a.len) (fun cdv A outer s H vs Q E hr h => ?_)
  obtain ⟨g, F0, ds, bs, ⟨d0, _, v0, _, rfl, rfl, ⟨rfl, a, b, c, rfl⟩, ⟨d1, _, v1, _, rfl, rfl, r1, ⟨rfl, rfl⟩⟩⟩, q⟩ := h
  unfold kDraw at q
  split at q
  case h_2 => exact q.elim
  rename_i bd heq
  cases heq
  obtain ⟨⟨hb0, hb1⟩, q⟩ := q
  obtain rfl : v1 = .int bd := r1
  have hu := hr.units
  refine ⟨_, pss_cons (ps_if (pt_cmpR (op_neD hu) (pe_ix ix_list (pv 0) pe_int (fun _ _ => rfl)) (pe_lst pa_nil) (nomark _))
      (pss_cons (ps_set (i := 2) sc_law_draw.nd rfl (.inl rfl) (pe_ix ix_list (pe_ix ix_list (pv 0) pe_int (fun _ _ => rfl)) pe_int (fun _ _ => rfl)))
      (pss_cons (ps_asg (pe_op op_fdivW (pv 2) (pv 1)) (pg_sub (pe_ix ix_list (pv 0) pe_int (fun _ _ => rfl)) pe_int set_list))
      (pss_cons (ps_if (pt_cmpR op_eq (pe_ix ix_list (pe_ix ix_list (pv 0) pe_int (fun _ _ => rfl)) pe_int (fun _ _ => rfl)) pe_int (nomark _))
        (pss_one (ps_expr (pe_bm PySem.F.plainAttrs_list PySem.F.slot_list_pop PySem.F.type_list_pop mt_popAt (pe_ix ix_list (pv 0) pe_int (fun _ _ => rfl)) (pa_cons pe_int pa_nil)))) pss_nil)
      (pss_one (ps_ret (pe_op op_mod (pe_callTy call_int1 (by rfl) mi (by decide +kernel) (pa_cons (pv 2) pa_nil)) (pv 1))))))) pss_nil)
    (pss_cons (ps_asg (pe_op op_add (pe_ix ix_list (pv 0) pe_int (fun _ _ => rfl)) pe_int) (pg_sub (pv 0) pe_int set_list))
    (pss_cons (ps_set (i := 3) sc_law_draw.nd rfl (.inl rfl) (pe_ix ix_list (pe_ix ix_list (pv 0) pe_int (fun _ _ => rfl))
        (pe_op op_mod (pe_callTy call_int1 (by rfl) mi (by decide +kernel) (pa_cons (pe_ix ix_list (pv 0) pe_int (fun _ _ => rfl)) pa_nil)) (pe_callB call_len_seq (by rfl) ml PySem.boot_len (pa_cons (pe_ix ix_list (pv 0) pe_int (fun _ _ => rfl)) pa_nil))) (fun _ _ => rfl)))
    (pss_cons (ps_set (i := 4) sc_law_draw.nd rfl (.inl rfl) (pe_op op_mod (pe_callTy call_int1 (by rfl) mi (by decide +kernel) (pa_cons (pe_op op_add (pe_op op_mod (pe_callTy call_int1 (by rfl) mi (by decide +kernel) (pa_cons (pv 3) pa_nil)) pe_int)
        (pe_op op_mul pe_int (pe_ix ix_list (pv 0) pe_int (fun _ _ => rfl)))) pa_nil)) pe_int))
    (pss_cons (ps_set (i := 4) sc_law_draw.nd rfl (.inl rfl) (pe_op op_mod (pe_callTy call_int1 (by rfl) mi (by decide +kernel) (pa_cons (pe_op op_add (pe_op op_mul (pv 4) (pv 4)) (pe_op op_mul pe_int (pe_ix ix_list (pv 0) pe_int (fun _ _ => rfl)))) pa_nil)) pe_int))
    (pss_one (ps_ret (pe_op op_mod (pe_op op_fdiv (pe_op op_mod (pe_callTy call_int1 (by rfl) mi (by decide +kernel) (pa_cons (pe_op op_mul (pv 4) (pv 4)) pa_nil)) pe_int) pe_int) (pv 1)))))))), ?_⟩
  obtain ⟨⟨nab, nac, nbc⟩, gs, cs, n, ha, hb, hc, lg, lc, lc2, hn⟩ := id bs.ok
  have at0 : atI [V.ref b, .ref c, .int n] 0 = some (.ref b) := rfl
  have at1 : atI [V.ref b, .ref c, .int n] 1 = some (.ref c) := rfl
  have at2 : atI [V.ref b, .ref c, .int n] 2 = some (.int n) := rfl
  -- if deck[0] != []
  refine ⟨.ref a, rfl, a, _, 0, _, rfl, rfl, .inl (.inl ha), at0, Nat.zero_le _, fun l hl => ?_⟩
  have keepN : ∀ {x o}, H x = some o → (upd H l (.lst [])) x = some o := fun {x o} e => by rw [upd_ne (ne_of_none e hl)]; exact e
  have la : a ≠ l := ne_of_none ha hl
  have lb : b ≠ l := ne_of_none hb hl
  have lc' : c ≠ l := ne_of_none hc hl
  refine ⟨.list (gs.map .int), .list [], dp_ints (keepN hb), .lst (.inl (.inl upd_same)) .nil, sh_ints gs, by decide, _, rfl, ?_⟩
  rw [eqv_nil]
  have st0 : Stp (deckRg a b c) F0 H F0 (upd H l (.lst [])) := bs.hide hl _
  have bs1 := st0.bs bs
  generalize hH1 : upd H l (.lst []) = H1 at *
  have ha1 : H1 a = some (.lst [.ref b, .ref c, .int n]) := keepN ha
  have hb1' : H1 b = some (.lst (gs.map V.int)) := keepN hb
  have hc1 : H1 c = some (.lst (cs.map V.int)) := keepN hc
  cases gs with
  | cons x gr =>
    refine iteT ?_
    have atx : atI ((x :: gr).map V.int) 0 = some (.int x) := atI_nat (j := 0) rfl
    refine ⟨.ref a, rfl, a, _, 0, _, rfl, rfl, .inl (.inl ha1), at0, b, _, 0, _, rfl, rfl, .inl (.inl hb1'), atx, ?_⟩
    refine ⟨_, rfl, _, rfl, x, bd, rfl, rfl, wide_div hb0 (b := 62) (by omega) (by decide) (by decide), ?_⟩
    refine ⟨_, rfl, a, _, 0, _, rfl, rfl, .inl (.inl ha1), at0, b, _, 0, 0, rfl, rfl, hb1', (by unfold ixN; simp), ?_⟩
    have ha2 : (upd H1 b (.lst (((x :: gr).map V.int).set 0 (.int (x / bd))))) a = some (.lst [.ref b, .ref c, .int n]) := by rw [upd_ne nab]; exact ha1
    have hc2 : (upd H1 b (.lst (((x :: gr).map V.int).set 0 (.int (x / bd))))) c = some (.lst (cs.map V.int)) := by rw [upd_ne (Ne.symm nbc)]; exact hc1
    have hb2 : (upd H1 b (.lst (((x :: gr).map V.int).set 0 (.int (x / bd))))) b = some (.lst (((x / bd) :: gr).map V.int)) := upd_same
    have oth : ∀ y, y ≠ a → y ≠ b → y ≠ c → (upd H1 b (.lst (((x :: gr).map V.int).set 0 (.int (x / bd))))) y = H1 y := fun y _ n2 _ => upd_ne n2
    generalize hH2 : upd H1 b (.lst (((x :: gr).map V.int).set 0 (.int (x / bd)))) = H2 at *
    have hmod : 0 ≤ x % bd ∧ x % bd < bd := ⟨Int.emod_nonneg _ (by omega), Int.emod_lt_of_pos _ hb0⟩
    have fin : ∀ H3, (∀ y, y ≠ a → y ≠ b → y ≠ c → H3 y = H1 y) → DeckIn a b c H3 → Q (.int (x % bd)) H3 := fun H3 h1 h2 =>
      q _ hmod.1 hmod.2 F0 H3 _ (st0.trans (deck_stp bs1 h1 h2)) rfl
    refine ⟨_, rfl, a, _, 0, _, rfl, rfl, .inl (.inl ha2), at0, b, _, 0, .int (x / bd), rfl, rfl, .inl (.inl hb2), atI_nat (j := 0) rfl, rfl, _, rfl, ite2 (fun _ => ?_) (fun _ => ?_)⟩
    · refine ⟨_, rfl, a, _, 0, _, rfl, rfl, .inl (.inl ha2), at0, .inl ⟨rfl, _, .inl (.inl hb2)⟩, b, _, 0, 0, .int (x / bd), rfl, rfl, hb2, by decide, by decide, (ixN_seq (by unfold ixN; simp)).1, rfl, ?_⟩
      refine ⟨_, rfl, .inl ⟨x, rfl, _, rfl, x, bd, rfl, rfl, hb0, fin _ (fun y n1 n2 n3 => by rw [upd_ne n2]; exact oth y n1 n2 n3) ?_⟩⟩
      exact ⟨⟨nab, nac, nbc⟩, gr, cs, n, by rw [upd_ne nab]; exact ha2, upd_same, by rw [upd_ne (Ne.symm nbc)]; exact hc2, by simp at lg; omega, lc, lc2, hn⟩
    · exact ⟨_, rfl, .inl ⟨x, rfl, _, rfl, x, bd, rfl, rfl, hb0, fin _ oth ⟨⟨nab, nac, nbc⟩, (x / bd) :: gr, cs, n, ha2, hb2, hc2, by simpa using lg, lc, lc2, hn⟩⟩⟩
  | nil =>
    refine iteF ?_
    refine ⟨_, rfl, a, _, 2, _, rfl, rfl, .inl (.inl ha1), at2, n, 1, rfl, rfl, _, rfl, a, _, 2, 2, rfl, rfl, ha1, rfl, ?_⟩
    have ha2 : (upd H1 a (.lst ([V.ref b, .ref c, .int n].set 2 (.int (n + 1))))) a = some (.lst [.ref b, .ref c, .int (n + 1)]) := upd_same
    have hb2 : (upd H1 a (.lst ([V.ref b, .ref c, .int n].set 2 (.int (n + 1))))) b = some (.lst (([] : List Int).map V.int)) := by rw [upd_ne (Ne.symm nab)]; exact hb1'
    have hc2 : (upd H1 a (.lst ([V.ref b, .ref c, .int n].set 2 (.int (n + 1))))) c = some (.lst (cs.map V.int)) := by rw [upd_ne (Ne.symm nac)]; exact hc1
    have oth : ∀ y, y ≠ a → y ≠ b → y ≠ c → (upd H1 a (.lst ([V.ref b, .ref c, .int n].set 2 (.int (n + 1))))) y = H1 y := fun y n1 _ _ => upd_ne n1
    generalize upd H1 a (.lst ([V.ref b, .ref c, .int n].set 2 (.int (n + 1)))) = H2 at *
    have at1' : atI [V.ref b, .ref c, .int (n + 1)] 1 = some (.ref c) := rfl
    have at2' : atI [V.ref b, .ref c, .int (n + 1)] 2 = some (.int (n + 1)) := rfl
    have hlen : (0 : Int) < (cs.map V.int).length := by rw [List.length_map]; omega
    obtain ⟨j, hj⟩ : ∃ j : Nat, (n + 1) % ((cs.map V.int).length : Int) = (j : Int) := ⟨((n + 1) % ((cs.map V.int).length : Int)).toNat, (Int.toNat_of_nonneg (Int.emod_nonneg _ (by omega))).symm⟩
    have hjl : j < cs.length := by
      have := Int.emod_lt_of_pos (n + 1) hlen
      rw [hj, List.length_map] at this; omega
    have hget : (cs.map V.int)[j]? = some (.int cs[j]) := by rw [List.getElem?_map, List.getElem?_eq_getElem hjl]; rfl
    refine ⟨_, rfl, a, _, 1, _, rfl, rfl, .inl (.inl ha2), at1', _, rfl, a, _, 2, _, rfl, rfl, .inl (.inl ha2), at2', .inl ⟨n + 1, rfl, _, rfl, a, _, 1, _, rfl, rfl, .inl (.inl ha2), at1', c, _, rfl, .inl (.inl (.inl hc2)), n + 1, _, rfl, rfl, hlen, ?_⟩⟩
    refine ⟨c, _, _, _, rfl, rfl, .inl (.inl hc2), by rw [hj]; exact atI_nat hget, ?_⟩
    refine ⟨_, rfl, .inl ⟨cs[j], rfl, cs[j], 4294967161, rfl, rfl, (by show (0 : Int) < 4294967161; decide), _, rfl, a, _, 2, _, rfl, rfl, .inl (.inl ha2), at2', 2869860233, n + 1, rfl, rfl, .inl ⟨by decide, by decide⟩, _, _, rfl, rfl, .inl ⟨_, rfl, _, 4294967161, rfl, rfl, (by show (0 : Int) < 4294967161; decide), ?_⟩⟩⟩
    obtain ⟨m1, hm⟩ : ∃ m1, (cs[j] % 4294967161 + 2869860233 * (n + 1)) % 4294967161 = m1 := ⟨_, rfl⟩
    have hm1 : 0 ≤ m1 ∧ m1 < 4294967161 := by subst hm; exact ⟨Int.emod_nonneg _ (by decide), Int.emod_lt_of_pos _ (by decide)⟩
    refine ⟨_, rfl, _, rfl, m1, m1, congrArg V.int hm, congrArg V.int hm, .inl ⟨by omega, by omega⟩, _, rfl, a, _, 2, _, rfl, rfl, .inl (.inl ha2), at2', 46368, n + 1, rfl, rfl, .inl ⟨by decide, by decide⟩, _, _, rfl, rfl, .inl ⟨_, rfl, _, 4294967143, rfl, rfl, (by show (0 : Int) < 4294967143; decide), ?_⟩⟩
    obtain ⟨m2, hm2⟩ : ∃ m2, (m1 * m1 + 46368 * (n + 1)) % 4294967143 = m2 := ⟨_, rfl⟩
    have hm2' : 0 ≤ m2 ∧ m2 < 4294967143 := by subst hm2; exact ⟨Int.emod_nonneg _ (by decide), Int.emod_lt_of_pos _ (by decide)⟩
    refine ⟨_, rfl, _, rfl, m2, m2, congrArg V.int hm2, congrArg V.int hm2, .inl ⟨by omega, by omega⟩, .inl ⟨_, rfl, _, 4294967111, rfl, rfl, (by show (0 : Int) < 4294967111; decide), _, 2048, rfl, rfl, ⟨by decide, by decide⟩, _, rfl, _, bd, rfl, rfl, hb0, ?_⟩⟩
    refine q _ (Int.emod_nonneg _ (by omega)) (Int.emod_lt_of_pos _ hb0) F0 H2 _ (st0.trans (deck_stp bs1 oth ?_)) rfl
    exact ⟨⟨nab, nac, nbc⟩, [], cs, n + 1, ha2, hb2, hc2, by simp, lc, lc2, by omega⟩
end
end PP

set_option Elab.async false
set_option linter.all false
set_option maxRecDepth 100000
set_option maxHeartbeats 1000000
namespace PP
open PySem PySem.Spec PyProof.Rows L2
abbrev s_law_deck : Stmt := topS 10
theorem sc_law_deck : FnScope ["script", "cells", "cell"] ["script"] (defScope s_law_deck) := ⟨rfl, rfl, rfl, by decide +kernel, rfl, by decide +kernel, by decide +kernel⟩
/-- a new deck -/
def spDeck (K : PySem.W.Frag) : Sp := fun vs H Q _ => ∃ (a : Addr) (ns : List Int), vs = [.ref a] ∧ SqL K H a (ns.map V.int) ∧ ns.length ≤ 63 ∧
  ∀ H' p b c, Same H H' → H p = none → H b = none → H c = none → DeckIn p b c H' → Q (.ref p) H'
theorem same_upd {H : Hp} {p : Addr} {o : HO} (h : H p = none) : Same H (upd H p o) := fun b x e => by
  rw [upd_ne (ne_of_none e h)]; exact e
theorem same_poke {H H' : Hp} {p : Addr} {o : HO} (s : Same H H') (h : H p = none) : Same H (upd H' p o) := fun b x e => by
  rw [upd_ne (ne_of_none e h)]; exact s b x e
def absI (i : Int) : Int := if i < 0 then -i else i
theorem cut_ints (ns : List Int) : ∃ ms : List Int, cutV (ns.map V.int) none (some 63) = ms.map V.int ∧ ms.length ≤ 63 := by
  refine ⟨(ns.drop 0).take (HT.sIx ns.length ns.length (some 63) - 0), ?_, ?_⟩
  · unfold cutV
    rw [List.length_map, HT.sIx_none, List.map_take, List.map_drop]
  · rw [List.length_take]
    have : HT.sIx ns.length ns.length (some 63) = min 63 ns.length := HT.sIx_nat _ _ 63
    omega
section
variable {P : Program} {w : World} {K : PySem.W.Frag} {mg : Str → Option Value} {base : Heap}
theorem ok_law_deck {f : Addr} {fd : FuncData} (F : Fun K "_law_deck" "_law_deck" s_law_deck f fd) (ma : mg "abs" = none) (ml : mg "len" = none) : FnOk P w K mg base CX0 1 f fd ["script"] (spDeck K) := by
  refine F.ok sc_law_deck (fun vs H Q E ⟨a, ns, e, _⟩ => by rw [e]; rfl) (fun cdv A outer s H vs Q E hr h => ?_)
  obtain ⟨a, ns, rfl, hS, hlen, q⟩ := h
  refine ⟨_, pss_cons (ps_setLc (i := 1) (own := [("cell", 2)]) (g := gName 2) (tt := tYes) (by rfl) sc_law_deck.nd rfl rfl (sw_true rfl rfl rfl (by decide +kernel)) (pi_list (pe_slice sl_list (pv 0) po_none (po_some pe_int)))
      (blkOk_by (own := [("cell", 2)]) (N := ["script", "cells", "cell"]) (sc := defScope s_law_deck) (by decide +kernel)) (fun _ _ _ _ _ => pg_name (i := 2) sc_law_deck.nd rfl (Or.inl rfl)) (fun _ _ _ _ _ => pts_nil) (fun _ _ _ _ _ => pe_callB call_abs (by rfl) ma (by decide +kernel) (pa_cons (pv 2) pa_nil)))
    (pss_one (ps_ret (pe_lst (pa_cons (pe_lc (own := [("cell", 2)]) (g := gName 2) (by rfl) sc_law_deck.nd (pi_list (pv 1)) (blkOk_by (own := [("cell", 2)]) (N := ["script", "cells", "cell"]) (sc := defScope s_law_deck) (by decide +kernel)) (fun _ _ _ _ _ => pg_name (i := 2) sc_law_deck.nd rfl (Or.inl rfl))
        (fun _ _ _ _ _ => pts_one (pt_cmpR op_ge (pv 2) (pe_op op_pow pe_int pe_int) (nomark _))) (fun _ _ _ _ _ => pv 2))
      (pa_cons (pe_op op_cat (pv 1) (pe_lst (pa_cons (pe_op op_add pe_int (pe_callB call_len_seq (by rfl) ml PySem.boot_len (pa_cons (pv 1) pa_nil))) pa_nil))) (pa_cons pe_int pa_nil)))))), ?_⟩
  obtain ⟨ms, em, lm⟩ := cut_ints ns
  -- script[:63]
  refine ⟨.ref a, rfl, 63, rfl, a, _, rfl, hS, fun p hp => ?_⟩
  rw [em]
  refine ⟨p, rfl, ⟨_, .inl (.inl upd_same)⟩, fun D hD => ?_⟩
  have sm1 : Same H (upd H p (.lst (ms.map V.int))) := same_upd hp
  have hp1 : (upd H p (.lst (ms.map V.int))) p = some (.lst (ms.map V.int)) := upd_same
  generalize upd H p (.lst (ms.map V.int)) = H1 at *
  have hD0 : H D = none := sm1.free hD
  refine lc_list (K := K) (a := p) (xs := ms.map V.int) (fun i H' => Same H1 H' ∧ H' D = some (.lst (((ms.take i).map absI).map V.int))) ⟨same_upd hD, upd_same⟩ (fun i H' _ h => .inl (.inl (h.1 _ _ hp1))) (fun i x H' hx h => ?_) (fun H' h => ?_)
  · refine ⟨rfl, _, rfl, ?_⟩
    rw [List.getElem?_map] at hx
    cases hm : ms[i]? with
    | none => rw [hm] at hx; cases hx
    | some m =>
      rw [hm] at hx; cases hx
      refine ⟨m, rfl, _, h.2, ?_, same_poke h.1 hD, ?_⟩
      · rw [List.length_map, List.length_map, List.length_take]
        exact Nat.lt_of_le_of_lt (Nat.min_le_right _ _) (Nat.lt_of_le_of_lt lm (by decide))
      · rw [upd_same, List.take_add_one, hm]
        simp [absI]
  · have h2 := h.2
    rw [List.length_map, List.take_length] at h2
    have h1 := sm1.trans h.1
    clear h
    generalize hc : ms.map absI = cs at *
    have lc : cs.length ≤ 63 := by rw [← hc, List.length_map]; exact lm
    -- the great cells
    refine ⟨.ref D, rfl, D, rfl, ⟨_, .inl (.inl h2)⟩, fun G hG => ?_⟩
    have gD : D ≠ G := ne_of_none h2 hG
    have hG0 : H G = none := h1.free hG
    refine lc_list (K := K) (a := D) (xs := cs.map V.int) (fun i H2 => Same H' H2 ∧ ∃ gs : List Int, H2 G = some (.lst (gs.map V.int)) ∧ gs.length ≤ i) ⟨same_upd hG, [], upd_same, Nat.le_refl _⟩ (fun i H2 _ h => .inl (.inl (h.1 _ _ h2))) (fun i x H2 hx h => ?_) (fun H2 h => ?_)
    · rw [List.getElem?_map] at hx
      cases hm : cs[i]? with
      | none => rw [hm] at hx; cases hx
      | some m =>
        rw [hm] at hx; cases hx
        obtain ⟨s2, gs, e2, l2⟩ := h
        have hi : i < cs.length := (List.getElem?_eq_some_iff.mp hm).1
        refine ⟨rfl, _, rfl, 10, 18, rfl, rfl, ⟨by decide, by decide, by decide⟩, m, _, rfl, rfl, _, rfl, ite2 (fun _ => ?_) (fun _ => ?_)⟩
        · refine ⟨_, rfl, _, e2, ?_, same_poke s2 hG, gs ++ [m], by rw [upd_same]; simp, by simp; omega⟩
          rw [List.length_map]
          exact Nat.lt_of_le_of_lt (Nat.le_trans l2 (Nat.le_of_lt (Nat.lt_of_lt_of_le hi lc))) (by decide)
        · exact ⟨s2, gs, e2, by omega⟩
    · obtain ⟨s2, gs, e2, l2⟩ := h
      rw [List.length_map] at l2
      have hD2 : H2 D = some (.lst (cs.map V.int)) := s2 _ _ h2
      refine ⟨.ref D, rfl, .ref D, rfl, D, _, rfl, .inl (.inl (.inl hD2)), 11213, _, rfl, rfl, (by show 1 ≤ sizeLine; decide), fun l hl => ?_⟩
      rw [List.length_map]
      have dl : D ≠ l := ne_of_none hD2 hl
      have gl : G ≠ l := ne_of_none e2 hl
      have hD3 : (upd H2 l (.lst [.int (11213 + (cs.length : Int))])) D = some (.lst (cs.map V.int)) := by rw [upd_ne dl]; exact hD2
      refine ⟨D, l, _, _, rfl, rfl, hD3, upd_same, ?_, fun c hc => ?_⟩
      · rw [List.length_map]
        exact Nat.le_trans (Nat.add_le_add_right lc 1) (by decide)
      have hl2 : H2 c = none := (same_upd hl : Same H2 _).free hc
      have gc : G ≠ c := ne_of_none e2 hl2
      refine ⟨by show 3 ≤ sizeLine; decide, fun r hr => ?_⟩
      have sA : Same H2 (upd H2 l (.lst [.int (11213 + (cs.length : Int))])) := same_upd hl
      have sB : Same H2 (upd (upd H2 l (.lst [.int (11213 + (cs.length : Int))])) c (.lst (cs.map V.int ++ [.int (11213 + (cs.length : Int))]))) := sA.trans (same_upd hc)
      have sC := sB.trans (same_upd (o := .lst [V.ref G, V.ref c, V.int 0]) hr)
      have rG : G ≠ r := ne_of_none (sB _ _ e2) hr
      have rc : c ≠ r := ne_of_none upd_same hr
      have all : Same H _ := (h1.trans s2).trans sC
      have hr0 : H r = none := ((h1.trans s2).trans sB).free hr
      have hc0 : H c = none := (h1.trans s2).free hl2
      refine q _ r G c all hr0 hG0 hc0 ⟨⟨Ne.symm rG, Ne.symm rc, gc⟩, gs, cs ++ [11213 + (cs.length : Int)], 0, upd_same, sC _ _ e2, ?_, by omega, by simp, by simp; omega, by omega⟩
      rw [upd_ne rc, upd_same]
      simp
end
end PP

set_option Elab.async false
set_option linter.all false
set_option maxRecDepth 100000
set_option maxHeartbeats 2000000
namespace PP
open PySem PySem.Spec PyProof.Rows L2
/-! ### webs as data -/
abbrev SD := D × List Int
abbrev tupI (ns : List Int) : D := .tuple (ns.map PyData.int)
abbrev stD (s : SD) : D := .tuple [s.1, tupI s.2]
abbrev webD (w : List SD) : D := .tuple (w.map stD)
def kindN : Nat → List D
  | 0 => .str "in" :: rgD (-99) 100
  | 1 => [.str "neg"]
  | 2 => [.str "+", .str "-", .str "*"]
  | 3 => [.str "pick"]
  | _ => []
theorem kind0 {d : D} (h : d ∈ [(.str "in" : D), .str "in", .int 7, .int (-99), .int 99, .int 0]) : d ∈ kindN 0 := by
  have q : ∀ i : Int, -99 ≤ i → i < 100 → (PyData.int i) ∈ kindN 0 := fun i h1 h2 => List.mem_cons_of_mem _ (List.mem_map.mpr ⟨(i + 99).toNat, List.mem_range.mpr (by omega), by congr 1; omega⟩)
  simp only [List.mem_cons, List.not_mem_nil, or_false] at h
  rcases h with h | h | h | h | h | h <;> subst h
  · exact List.mem_cons_self
  · exact List.mem_cons_self
  all_goals exact q _ (by decide) (by decide)
def StOk (n : Nat) (s : SD) : Prop := s.2.length ≤ 3 ∧ s.1 ∈ kindN s.2.length ∧ ∀ i ∈ s.2, 0 ≤ i ∧ i < n
def Grown (n : Nat) (w : List SD) : Prop := 1 ≤ w.length ∧ w.length ≤ n ∧ ∀ i s, w[i]? = some s → StOk i s
def Wb (n : Nat) (w : List SD) : Prop := 1 ≤ w.length ∧ w.length ≤ n ∧ (∀ s ∈ w, StOk w.length s) ∧ ∃ rk : Nat → Nat, (∀ i, i < w.length → rk i < w.length) ∧ ∀ i s, w[i]? = some s → ∀ j ∈ s.2, rk j.toNat < rk i
theorem StOk.mono {n m : Nat} {s : SD} (h : StOk n s) (l : n ≤ m) : StOk m s := ⟨h.1, h.2.1, fun i hi => by have := h.2.2 i hi; omega⟩
theorem Grown.wb {n : Nat} {w : List SD} (h : Grown n w) : Wb n w := by
  refine ⟨h.1, h.2.1, fun s hs => ?_, id, fun i hi => hi, fun i s hs j hj => ?_⟩
  · obtain ⟨i, hi, e⟩ := List.mem_iff_getElem.mp hs
    exact (h.2.2 i s (by rw [List.getElem?_eq_getElem hi, e])).mono (by omega)
  · have := (h.2.2 i s hs).2.2 j hj
    simp only [id]
    omega
def rowI (row : List Nat) : List Int := row.map fun (k : Nat) => (k : Int)
def numb (w : List SD) (row : List Nat) : List SD := row.map fun s => ((w.getD s (.none, [])).1, (w.getD s (.none, [])).2.map fun o => ((row.idxOf o.toNat : Nat) : Int))
/-! ### promises -/
def kMixed : KF := fun ds Q => match ds with
  | [_, .list xs] => xs.length ≤ 500 ∧ ∀ ys, ys.Perm xs → Q (.list ys)
  | [_, .tuple xs] => xs.length ≤ 500 ∧ ∀ ys, ys.Perm xs → Q (.list ys)
  | _ => False
theorem kMixed_mono : MonoC kMixed := fun ds Q Q' f q => by
  unfold kMixed at q ⊢
  split at q
  · exact ⟨q.1, fun d h => f _ (q.2 d h)⟩
  · exact ⟨q.1, fun d h => f _ (q.2 d h)⟩
  · exact q.elim
def kKind : KF := fun ds Q => match ds with
  | [_, .int m] => ∃ k : Nat, m = (k : Int) ∧ k ≤ 3 ∧ ∀ d ∈ kindN k, Q d
  | _ => False
theorem kKind_mono : MonoC kKind := fun ds Q Q' f q => by
  unfold kKind at q ⊢
  split at q
  · obtain ⟨k, h1, h2, q⟩ := q
    exact ⟨k, h1, h2, fun d h => f _ (q d h)⟩
  · exact q.elim
def kStep : KF := fun ds Q => match ds with
  | [_, .int a, .int b] => ∃ n r : Nat, a = (n : Int) ∧ b = (r : Int) ∧ n ≤ 500 ∧ 1 ≤ r ∧ r ≤ 500 ∧ ∀ s, StOk n s → Q (stD s)
  | _ => False
theorem kStep_mono : MonoC kStep := fun ds Q Q' f q => by
  unfold kStep at q ⊢
  split at q
  · obtain ⟨n, r, h1, h2, h3, h4, h5, q⟩ := q
    exact ⟨n, r, h1, h2, h3, h4, h5, fun d h => f _ (q d h)⟩
  · exact q.elim
def kGrown : KF := fun ds Q => match ds with
  | [_, .int m] => ∃ n : Nat, m = (n : Int) ∧ 1 ≤ n ∧ n ≤ 100 ∧ ∀ w, Grown n w → Q (webD w)
  | _ => False
theorem kGrown_mono : MonoC kGrown := fun ds Q Q' f q => by
  unfold kGrown at q ⊢
  split at q
  · obtain ⟨k, h1, h2, h3, q⟩ := q
    exact ⟨k, h1, h2, h3, fun d h => f _ (q d h)⟩
  · exact q.elim
abbrev kRowed : KF := kGrown
theorem kRowed_mono : MonoC kRowed := kGrown_mono
def kWeb : KF := fun ds Q => match ds with
  | [_, .int m] => ∃ n : Nat, m = (n : Int) ∧ 1 ≤ n ∧ n ≤ 100 ∧ ∀ w, Wb n w → Q (webD w)
  | _ => False
theorem kWeb_mono : MonoC kWeb := fun ds Q Q' f q => by
  unfold kWeb at q ⊢
  split at q
  · obtain ⟨k, h1, h2, h3, q⟩ := q
    exact ⟨k, h1, h2, h3, fun d h => f _ (q d h)⟩
  · exact q.elim
def kNumb : KF := fun ds Q => ∃ (w : List SD) (row : List Nat), ds = [webD w, .list ((rowI row).map PyData.int)] ∧ row.Perm (List.range w.length) ∧ w.length ≤ 100 ∧ (∀ s ∈ w, StOk w.length s) ∧ Q (webD (numb w row))
theorem kNumb_mono : MonoC kNumb := fun ds Q Q' f q => by
  obtain ⟨w, row, h1, h2, h3, h4, q⟩ := q
  exact ⟨w, row, h1, h2, h3, h4, f _ q⟩

theorem erase_perm {α : Type} : ∀ (xs : List α) (j : Nat) (h : j < xs.length), (xs[j] :: xs.eraseIdx j).Perm xs
  | x :: xs, 0, _ => List.Perm.refl _
  | x :: xs, j + 1, h => (List.Perm.swap _ _ _).trans ((erase_perm xs j (by simpa using h)).cons x)
theorem mem_rgD {a b : Int} {y : D} (h : y ∈ rgD a b) : ∃ i, y = .int i ∧ a ≤ i ∧ i < b := by
  unfold rgD at h
  obtain ⟨k, hk, rfl⟩ := List.mem_map.mp h
  have := List.mem_range.mp hk
  exact ⟨_, rfl, by omega, by omega⟩
theorem len_rgD {a b : Int} : (rgD a b).length = (b - a).toNat := by simp [rgD]
theorem al_ints {P : Int → Prop} : ∀ {xs ys : List D}, Al (fun _ y => ∃ i, y = PyData.int i ∧ P i) xs ys → ∃ is : List Int, ys = is.map PyData.int ∧ is.length = xs.length ∧ ∀ i ∈ is, P i
  | [], _, h => ⟨[], h, rfl, fun _ z => by simp at z⟩
  | x :: xs, _, ⟨y, r, e, ⟨i, ey, hp⟩, t⟩ => by
    obtain ⟨is, h1, h2, h3⟩ := al_ints t
    refine ⟨i :: is, by rw [e, ey, h1]; rfl, by simp [h2], fun j hj => ?_⟩
    rcases List.mem_cons.mp hj with z | hj
    · rw [z]; exact hp
    · exact h3 j hj
theorem line_big : (1000000 : Nat) ≤ sizeLine := by decide

theorem rgD_cons {a b : Int} (h : a < b) : rgD a b = .int a :: rgD (a + 1) b := by
  unfold rgD
  have e : (b - a).toNat = (b - (a + 1)).toNat + 1 := by omega
  rw [e, List.range_succ_eq_map, List.map_cons, List.map_map]
  congr 1
  · simp
  · apply List.map_congr_left
    intro k _
    simp
    omega
theorem perm_map {α β : Type} (f : α → β) : ∀ {xs : List α} {ys : List β}, ys.Perm (xs.map f) → ∃ zs : List α, zs.Perm xs ∧ ys = zs.map f := by
  intro xs ys h
  induction ys generalizing xs with
  | nil =>
    have := h.length_eq
    simp at this
    have e : xs = [] := List.length_eq_zero_iff.mp this.symm
    subst e
    exact ⟨[], List.Perm.refl _, rfl⟩
  | cons y ys ih =>
    have hm : y ∈ xs.map f := h.mem_iff.mp List.mem_cons_self
    obtain ⟨x, hx, rfl⟩ := List.mem_map.mp hm
    obtain ⟨l, r, rfl⟩ := List.append_of_mem hx
    have h2 : ys.Perm ((l ++ r).map f) := by
      have : (f x :: ys).Perm (f x :: (l ++ r).map f) := h.trans (by simp only [List.map_append, List.map_cons]; exact List.perm_middle)
      exact this.cons_inv
    obtain ⟨zs, hz, rfl⟩ := ih h2
    exact ⟨x :: zs, (hz.cons x).trans List.perm_middle.symm, rfl⟩
theorem perm_row {n : Nat} {ys : List D} (h : ys.Perm ((rowI (List.range n)).map PyData.int)) : ∃ row : List Nat, row.Perm (List.range n) ∧ ys = (rowI row).map PyData.int := by
  unfold rowI at h
  rw [List.map_map] at h
  obtain ⟨zs, hz, e⟩ := perm_map _ h
  exact ⟨zs, hz, by rw [e, rowI, List.map_map]⟩
theorem numb_len {w : List SD} {row : List Nat} : (numb w row).length = row.length := by simp [numb]
theorem numb_wb {n : Nat} {w : List SD} {row : List Nat} (h : Wb n w) (hp : row.Perm (List.range w.length)) : Wb n (numb w row) := by
  obtain ⟨a1, a2, a3, rk, a4, a5⟩ := h
  have hl : row.length = w.length := by rw [hp.length_eq, List.length_range]
  have mem : ∀ k, k ∈ row ↔ k < w.length := fun k => by rw [hp.mem_iff, List.mem_range]
  have nd : row.Nodup := hp.nodup_iff.mpr List.nodup_range
  have at_ : ∀ (i : Nat) (s : SD), (numb w row)[i]? = some s → ∃ k : Nat, row[i]? = some k ∧ ∃ hk : k < w.length, s = (w[k].1, w[k].2.map fun o => ((row.idxOf o.toNat : Nat) : Int)) := by
    intro i s hs
    unfold numb at hs
    rw [List.getElem?_map] at hs
    cases q : row[i]? with
    | none => rw [q] at hs; cases hs
    | some k =>
      rw [q] at hs
      have hk : k < w.length := (mem k).mp (List.mem_of_getElem? q)
      refine ⟨k, rfl, hk, ?_⟩
      have e : w.getD k (.none, []) = w[k] := by rw [List.getD_eq_getElem?_getD, List.getElem?_eq_getElem hk]; rfl
      simp only [Option.map_some, Option.some.injEq, e] at hs
      exact hs.symm
  refine ⟨by rw [numb_len]; omega, by rw [numb_len]; omega, fun s hs => ?_, fun i => rk (row.getD i 0), fun i hi => ?_, fun i s hs j hj => ?_⟩
  · obtain ⟨i, hi, e⟩ := List.mem_iff_getElem.mp hs
    obtain ⟨k, _, hk, rfl⟩ := at_ i s (by rw [List.getElem?_eq_getElem hi, e])
    obtain ⟨b1, b2, b3⟩ := a3 w[k] (List.getElem_mem hk)
    refine ⟨by simpa using b1, by simpa using b2, fun z hz => ?_⟩
    obtain ⟨o, ho, rfl⟩ := List.mem_map.mp hz
    have := b3 o ho
    rw [numb_len]
    have : row.idxOf o.toNat < row.length := List.idxOf_lt_length_of_mem ((mem _).mpr (by omega))
    omega
  · rw [numb_len] at hi ⊢
    have e : row.getD i 0 = row[i] := by rw [List.getD_eq_getElem?_getD, List.getElem?_eq_getElem hi]; rfl
    show rk (row.getD i 0) < row.length
    rw [e, hl]
    exact a4 _ ((mem _).mp (List.getElem_mem hi))
  · obtain ⟨k, hk1, hk, rfl⟩ := at_ i s hs
    obtain ⟨o, ho, rfl⟩ := List.mem_map.mp hj
    have b := (a3 w[k] (List.getElem_mem hk)).2.2 o ho
    have lt : row.idxOf o.toNat < row.length := List.idxOf_lt_length_of_mem ((mem _).mpr (by omega))
    have e1 : row.getD i 0 = k := by rw [List.getD_eq_getElem?_getD, hk1]; rfl
    have e2 : row.getD (((row.idxOf o.toNat : Nat) : Int).toNat) 0 = o.toNat := by
      rw [Int.toNat_natCast, List.getD_eq_getElem?_getD, List.getElem?_eq_getElem lt]
      simp
    show rk (row.getD (((row.idxOf o.toNat : Nat) : Int).toNat) 0) < rk (row.getD i 0)
    rw [e1, e2]
    exact a5 k w[k] (List.getElem?_eq_getElem hk) o ho
end PP

set_option Elab.async false
set_option linter.all false
set_option maxRecDepth 100000
set_option maxHeartbeats 2000000
namespace PP
open PySem PySem.Spec PyProof.Rows L2
/-- the ties into step t -/
def tiesAt (t : Nat) (s : SD) : List (List Int) := s.2.mapIdx fun p g => [g, (t : Int), (p : Int)]
def tiesL (w : List SD) : List (List Int) := (w.mapIdx tiesAt).flatten
/-- a row of ties from a to b -/
def Tie (w : List SD) (a b : Nat) : Prop := ∃ s, w[b]? = some s ∧ (a : Int) ∈ s.2
inductive Reach (w : List SD) : Nat → Nat → Prop
  | one {a b : Nat} : Tie w a b → Reach w a b
  | more {a b c : Nat} : Tie w a b → Reach w b c → Reach w a c
def kTies : KF := fun ds Q => ∃ w : List SD, ds = [webD w] ∧ Wb 100 w ∧ Q (.tuple ((srtR (tiesL w)).map rowD))
theorem kTies_mono : MonoC kTies := fun ds Q Q' f ⟨w, h1, h2, q⟩ => ⟨w, h1, h2, f _ q⟩
def kTiesL : KF := fun ds Q => ∃ w : List SD, ds = [webD w] ∧ Wb 100 w ∧ Q (.list ((srtR (tiesL w)).map rowD))
theorem kTiesL_mono : MonoC kTiesL := fun ds Q Q' f ⟨w, h1, h2, q⟩ => ⟨w, h1, h2, f _ q⟩
/-- steps that give nothing -/
def resL (w : List SD) : List Int := (rowI (List.range w.length)).filter fun k => !((srtR (tiesL w)).any fun r => r.getD 0 0 == k)
def kRes : KF := fun ds Q => ∃ w : List SD, ds = [webD w] ∧ Wb 100 w ∧ Q (tupI (resL w))
theorem kRes_mono : MonoC kRes := fun ds Q Q' f ⟨w, h1, h2, q⟩ => ⟨w, h1, h2, f _ q⟩
def kJoin : KF := fun ds Q => ∃ w : List SD, ds = [webD w] ∧ Wb 10 w ∧ ∀ L : List (List Int), L.length = w.length → (∀ i l, L[i]? = some l → ∀ k : Int, k ∈ l ↔ ∃ b : Nat, k = b ∧ Reach w i b) → Q (.list (L.map fun l => .list (l.map PyData.int)))
theorem kJoin_mono : MonoC kJoin := fun ds Q Q' f ⟨w, h1, h2, q⟩ => ⟨w, h1, h2, fun L a b => f _ (q L a b)⟩
def kAhead : KF := fun ds Q => ∃ (w : List SD) (k : Nat), ds = [webD w, .int k] ∧ Wb 100 w ∧ k < w.length ∧ ∀ l : List Int, (∀ a : Int, a ∈ l ↔ ∃ b : Nat, a = b ∧ Reach w b k) → Q (.list (l.map PyData.int))
theorem kAhead_mono : MonoC kAhead := fun ds Q Q' f ⟨w, k, h1, h2, h3, q⟩ => ⟨w, k, h1, h2, h3, fun l h => f _ (q l h)⟩
open Classical in
def kLeads : KF := fun ds Q => ∃ (w : List SD) (a b : Nat), ds = [webD w, .int a, .int b] ∧ Wb 100 w ∧ a < w.length ∧ b < w.length ∧ Q (.bool (decide (Reach w a b)))
theorem kLeads_mono : MonoC kLeads := fun ds Q Q' f ⟨w, a, b, h1, h2, h3, h4, q⟩ => ⟨w, a, b, h1, h2, h3, h4, f _ q⟩

def tiesTo (w : List SD) (i : Nat) : List (List Int) := ((w.mapIdx tiesAt).take i).flatten
theorem tiesTo_all (w : List SD) : tiesTo w w.length = tiesL w := by
  unfold tiesTo tiesL
  rw [List.take_of_length_le (by simp)]
theorem tiesTo_succ {w : List SD} {i : Nat} (h : i < w.length) : tiesTo w (i + 1) = tiesTo w i ++ tiesAt i w[i] := by
  unfold tiesTo
  rw [List.take_succ_eq_append_getElem (by simpa using h), List.flatten_append]
  simp
theorem tiesAt_len (i : Nat) (s : SD) : (tiesAt i s).length = s.2.length := by simp [tiesAt]
theorem tiesTo_len {w : List SD} (h : ∀ s ∈ w, s.2.length ≤ 3) : ∀ i, i ≤ w.length → (tiesTo w i).length ≤ 3 * i
  | 0, _ => by simp [tiesTo]
  | i + 1, hi => by
    rw [tiesTo_succ (by omega), List.length_append, tiesAt_len]
    have := tiesTo_len h i (by omega)
    have := h w[i] (List.getElem_mem (by omega))
    omega
theorem tiesL_ne {w : List SD} : ∀ n ∈ tiesL w, n ≠ [] := by
  intro n hn
  unfold tiesL at hn
  obtain ⟨l, hl, hn⟩ := List.mem_flatten.mp hn
  obtain ⟨i, hi, e⟩ := List.mem_iff_getElem.mp hl
  rw [List.getElem_mapIdx] at e
  subst e
  unfold tiesAt at hn
  obtain ⟨j, hj, e⟩ := List.mem_iff_getElem.mp hn
  rw [List.getElem_mapIdx] at e
  rw [← e]
  simp
def tieF1 (i : Nat) (ins : List Int) : D → D
  | .int p => rowD [ins.getD p.toNat 0, (i : Int), p]
  | d => d
def tieF2 (i : Nat) : D → D
  | .tuple [.int p, .int g] => rowD [g, (i : Int), p]
  | d => d
def headF : D → D
  | .tuple (x :: _) => x
  | d => d
def resP (w : List SD) : D → Bool
  | .int k => !((srtR (tiesL w)).any fun r => r.getD 0 0 == k)
  | _ => false
/-- ties of one step, as data, by place -/
theorem tiesAt_rg (i : Nat) (s : SD) : (rgD 0 (s.2.length : Int)).map (tieF1 i s.2) = (tiesAt i s).map rowD := by
  apply List.ext_getElem
  · simp [len_rgD, tiesAt]
  · intro k h1 h2
    simp [len_rgD] at h1
    simp [rgD, tiesAt, h1, tieF1]
theorem tiesAt_en (i : Nat) (s : SD) : (enD (s.2.map PyData.int)).map (tieF2 i) = (tiesAt i s).map rowD := by
  apply List.ext_getElem
  · simp [enD_len, tiesAt]
  · intro k h1 h2
    have h1 : k < s.2.length := by simpa [enD_len] using h1
    simp [enD, tiesAt, h1, tieF2]
end PP

set_option Elab.async false
set_option linter.all false
set_option maxRecDepth 100000
set_option maxHeartbeats 2000000
namespace PP
open PySem PySem.Spec PyProof.Rows L2
/-! ### rows of ties -/
theorem Reach.trans {w : List SD} {a b c : Nat} (h : Reach w a b) (h' : Reach w b c) : Reach w a c := by
  induction h with
  | one t => exact .more t h'
  | more t _ ih => exact .more t (ih h')
/-- of at most t + 1 ties -/
def RL (w : List SD) : Nat → Nat → Nat → Prop
  | 0, a, b => Tie w a b
  | t + 1, a, c => RL w t a c ∨ ∃ b, Tie w a b ∧ RL w t b c
theorem RL.mono {w : List SD} {t u a b : Nat} (h : RL w t a b) (l : t ≤ u) : RL w u a b := by
  induction l with
  | refl => exact h
  | step _ ih => exact .inl ih
theorem RL.reach {w : List SD} : ∀ {t a b : Nat}, RL w t a b → Reach w a b
  | 0, _, _, h => .one h
  | _ + 1, _, _, .inl h => h.reach
  | _ + 1, _, _, .inr ⟨_, t, h⟩ => .more t h.reach
theorem Reach.rl {w : List SD} {rk : Nat → Nat} (hr : ∀ i s, w[i]? = some s → ∀ j ∈ s.2, rk (Int.toNat j) < rk i) {a b : Nat} (h : Reach w a b) : ∃ t, t + 1 + rk a ≤ rk b ∧ RL w t a b := by
  induction h with
  | @one a b t =>
    obtain ⟨s, h1, h2⟩ := t
    have := hr b s h1 a h2
    rw [Int.toNat_natCast] at this
    exact ⟨0, by omega, ⟨s, h1, h2⟩⟩
  | @more a b c t _ ih =>
    obtain ⟨u, h, r⟩ := ih
    obtain ⟨s, h1, h2⟩ := id t
    have := hr b s h1 a h2
    rw [Int.toNat_natCast] at this
    exact ⟨u + 1, by omega, .inr ⟨b, t, r⟩⟩
theorem Reach.all {n : Nat} {w : List SD} (hw : Wb n w) {a b : Nat} (h : Reach w a b) : RL w w.length a b := by
  obtain ⟨_, _, _, rk, h1, h2⟩ := hw
  have hb : b < w.length := by
    clear h1 h2
    induction h with
    | one t => obtain ⟨s, e, _⟩ := t; exact (List.getElem?_eq_some_iff.mp e).1
    | more _ _ ih => exact ih
  obtain ⟨t, l, r⟩ := h.rl h2
  have := h1 b hb
  exact r.mono (by omega)
theorem Tie.lt {n : Nat} {w : List SD} (hw : Wb n w) {a b : Nat} (h : Tie w a b) : a < w.length ∧ b < w.length := by
  obtain ⟨s, e, m⟩ := h
  have hb := (List.getElem?_eq_some_iff.mp e).1
  have := (hw.2.2.1 s (List.mem_of_getElem? e)).2.2 _ m
  exact ⟨by omega, hb⟩
theorem Reach.lt {n : Nat} {w : List SD} (hw : Wb n w) {a b : Nat} (h : Reach w a b) : a < w.length ∧ b < w.length := by
  induction h with
  | one t => exact t.lt hw
  | more t _ ih => exact ⟨(t.lt hw).1, ih.2⟩
theorem pig : ∀ (n : Nat) (l : List Int), l.Nodup → (∀ x ∈ l, 0 ≤ x ∧ x < n) → l.length ≤ n
  | 0, l, _, h => by
    cases l with
    | nil => simp
    | cons x l => have := h x List.mem_cons_self; omega
  | n + 1, l, nd, h => by
    by_cases hm : (n : Int) ∈ l
    · have := pig n (l.erase n) (nd.erase _) fun x hx => by
        have h1 := h x (List.mem_of_mem_erase hx)
        have h2 : x ≠ n := fun e => by subst e; exact (List.Nodup.not_mem_erase nd) hx
        omega
      rw [List.length_erase_of_mem hm] at this
      omega
    · have := pig n l nd fun x hx => by
        have h1 := h x hx
        have h2 : x ≠ n := fun e => hm (e ▸ hx)
        omega
      omega
theorem mem_tiesL {w : List SD} {r : List Int} : r ∈ tiesL w ↔ ∃ (t p : Nat) (s : SD) (g : Int), w[t]? = some s ∧ s.2[p]? = some g ∧ r = [g, (t : Int), (p : Int)] := by
  unfold tiesL
  rw [List.mem_flatten]
  constructor
  · rintro ⟨l, hl, hr⟩
    obtain ⟨t, ht, e⟩ := List.mem_iff_getElem.mp hl
    rw [List.getElem_mapIdx] at e
    subst e
    obtain ⟨p, hp, e⟩ := List.mem_iff_getElem.mp hr
    have lt : t < w.length := by simpa using ht
    have lp : p < w[t].2.length := by rw [← tiesAt_len t]; exact hp
    have e2 : (tiesAt t w[t])[p]? = some r := by rw [List.getElem?_eq_getElem hp, e]
    have e3 : (tiesAt t w[t])[p]? = some [w[t].2[p], (t : Int), (p : Int)] := by simp [tiesAt, lp]
    rw [e3] at e2
    exact ⟨t, p, w[t], w[t].2[p], List.getElem?_eq_getElem lt, List.getElem?_eq_getElem lp, (Option.some.inj e2).symm⟩
  · rintro ⟨t, p, s, g, h1, h2, rfl⟩
    obtain ⟨lt, e1⟩ := List.getElem?_eq_some_iff.mp h1
    obtain ⟨lp, e2⟩ := List.getElem?_eq_some_iff.mp h2
    refine ⟨tiesAt t s, List.mem_iff_getElem.mpr ⟨t, by simpa using lt, by rw [List.getElem_mapIdx, e1]⟩, List.mem_of_getElem? (i := p) (by simp [tiesAt, lp, e2])⟩
/-- what takes from a step -/
def takersP (a : Int) (r : List Int) : Bool := r.getD 0 0 == a
def takers (w : List SD) (a : Nat) : List Int := ((srtR (tiesL w)).filter (takersP a)).map fun r => r.getD 1 0
theorem mem_takers {w : List SD} {a : Nat} {k : Int} : k ∈ takers w a ↔ ∃ b : Nat, k = (b : Int) ∧ Tie w a b := by
  unfold takers
  rw [List.mem_map]
  constructor
  · rintro ⟨r, hr, rfl⟩
    obtain ⟨h1, h2⟩ := List.mem_filter.mp hr
    obtain ⟨t, p, s, g, e1, e2, rfl⟩ := mem_tiesL.mp ((srtR_perm _).mem_iff.mp h1)
    have e : g = (a : Int) := by simpa [takersP] using h2
    subst e
    exact ⟨t, rfl, s, e1, List.mem_of_getElem? e2⟩
  · rintro ⟨b, rfl, s, e1, m⟩
    obtain ⟨p, hp, e2⟩ := List.mem_iff_getElem.mp m
    refine ⟨[(a : Int), (b : Int), (p : Int)], List.mem_filter.mpr ⟨(srtR_perm _).mem_iff.mpr (mem_tiesL.mpr ⟨b, p, s, _, e1, by rw [List.getElem?_eq_getElem hp, e2], rfl⟩), by simp [takersP]⟩, rfl⟩
theorem takers_len (w : List SD) (a : Nat) : (takers w a).length ≤ (tiesL w).length := by
  unfold takers
  rw [List.length_map, ← (srtR_perm (tiesL w)).length_eq]
  exact List.length_filter_le _ _
end PP

set_option Elab.async false
set_option linter.all false
set_option maxRecDepth 100000
set_option maxHeartbeats 2000000
namespace PP
open PySem PySem.Spec PyProof.Rows L2
def lstI (l : List Int) : D := .list (l.map PyData.int)
def takersF (w : List SD) : D → D
  | .int a => lstI (takers w a.toNat)
  | d => d
def takersPD (a : Int) : D → Bool
  | .tuple (.int g :: _) => g == a
  | .tuple [] => (0 : Int) == a
  | _ => false
def takerF : D → D
  | .tuple (_ :: x :: _) => x
  | d => d
/-- how far the joining is: step j as far as rows of T j + 1 ties -/
structure JInv (w : List SD) (T : Nat → Nat) (L : List (List Int)) : Prop where
  len : L.length = w.length
  few : ∀ (i : Nat) (l : List Int), L[i]? = some l → l.length ≤ 30
  sound : ∀ (i : Nat) (l : List Int), L[i]? = some l → ∀ k ∈ l, ∃ b : Nat, k = (b : Int) ∧ Reach w i b
  full : ∀ (i : Nat) (l : List Int), L[i]? = some l → ∀ b : Nat, RL w (T i) i b → (b : Int) ∈ l
theorem jinv0 {w : List SD} (hw : Wb 10 w) (hf : (tiesL w).length ≤ 30) : JInv w (fun _ => 0) ((List.range w.length).map (takers w)) := by
  have at_ : ∀ (i : Nat) (l : List Int), ((List.range w.length).map (takers w))[i]? = some l → l = takers w i := by
    intro i l h
    rw [List.getElem?_map] at h
    by_cases hi : i < w.length
    · rw [List.getElem?_range hi] at h
      cases h
      rfl
    · rw [List.getElem?_eq_none (by simpa using hi)] at h
      cases h
  refine ⟨by simp, fun i l h => ?_, fun i l h k hk => ?_, fun i l h b hb => ?_⟩
  · rw [at_ i l h]
    exact Nat.le_trans (takers_len w i) hf
  · rw [at_ i l h] at hk
    obtain ⟨b, e, t⟩ := mem_takers.mp hk
    exact ⟨b, e, .one t⟩
  · rw [at_ i l h]
    exact mem_takers.mpr ⟨b, rfl, hb⟩
theorem JInv.all {w : List SD} {t : Nat} {L : List (List Int)} (J : JInv w (fun j => if j < w.length then t + 1 else t) L) : JInv w (fun _ => t + 1) L := by
  refine ⟨J.len, J.few, J.sound, fun i l h b hb => J.full i l h b ?_⟩
  have hi : i < w.length := by rw [← J.len]; exact (List.getElem?_eq_some_iff.mp h).1
  show RL w (if i < w.length then t + 1 else t) i b
  rw [if_pos hi]
  exact hb
theorem jinvS {w : List SD} {t i : Nat} {L : List (List Int)} (hw : Wb 10 w) (J : JInv w (fun j => if j < i then t + 1 else t) L) (hi : i < w.length) (hL : i < L.length) (more : List Int)
    (hm : ∀ c, c ∈ more ↔ c ∈ L[i] ∨ ∃ (b : Nat) (l : List Int), (b : Int) ∈ L[i] ∧ L[b]? = some l ∧ c ∈ l) : JInv w (fun j => if j < i + 1 then t + 1 else t) (L.set i (setI more)) ∧ (setI more).length ≤ 10 := by
  have sd : ∀ c ∈ more, ∃ b : Nat, c = (b : Int) ∧ Reach w i b := by
    intro c hc
    rcases (hm c).mp hc with h | ⟨b, l, h1, h2, h3⟩
    · exact J.sound i _ (List.getElem?_eq_getElem hL) c h
    · obtain ⟨d, e, r⟩ := J.sound b l h2 c h3
      obtain ⟨d2, e2, r2⟩ := J.sound i _ (List.getElem?_eq_getElem hL) _ h1
      have : d2 = b := by omega
      subst this
      exact ⟨d, e, r2.trans r⟩
  have few : (setI more).length ≤ 10 := by
    refine Nat.le_trans (pig w.length _ setI_nodup fun x hx => ?_) hw.2.1
    obtain ⟨b, e, r⟩ := sd x (mem_setI.mp hx)
    have := (r.lt hw).2
    omega
  have at_ : ∀ (j : Nat) (l : List Int), (L.set i (setI more))[j]? = some l → (j = i ∧ l = setI more) ∨ (j ≠ i ∧ L[j]? = some l) := by
    intro j l h
    rw [List.getElem?_set] at h
    by_cases c : i = j
    · subst c
      rw [if_pos rfl, if_pos hL] at h
      cases h
      exact .inl ⟨rfl, rfl⟩
    · rw [if_neg c] at h
      exact .inr ⟨fun e => c e.symm, h⟩
  refine ⟨⟨by rw [List.length_set]; exact J.len, fun j l h => ?_, fun j l h k hk => ?_, fun j l h b hb => ?_⟩, few⟩
  · rcases at_ j l h with ⟨rfl, rfl⟩ | ⟨_, h⟩
    · omega
    · exact J.few j l h
  · rcases at_ j l h with ⟨rfl, rfl⟩ | ⟨_, h⟩
    · exact sd k (mem_setI.mp hk)
    · exact J.sound j l h k hk
  · have hb : RL w (if j < i + 1 then t + 1 else t) j b := hb
    rcases at_ j l h with ⟨rfl, rfl⟩ | ⟨hj, h⟩
    · rw [if_pos (by omega)] at hb
      refine mem_setI.mpr ((hm b).mpr ?_)
      have hT : ∀ d, RL w t j d → (d : Int) ∈ L[j] := fun d hd => J.full j _ (List.getElem?_eq_getElem hL) d (by
        show RL w (if j < j then t + 1 else t) j d
        rw [if_neg (by omega)]; exact hd)
      rcases hb with hb | ⟨d, tie, hb⟩
      · exact .inl (hT b hb)
      · have ld : d < L.length := by rw [J.len]; exact (tie.lt hw).2
        refine .inr ⟨d, L[d], hT d (RL.mono (t := 0) tie (Nat.zero_le _)), List.getElem?_eq_getElem ld, J.full d _ (List.getElem?_eq_getElem ld) b ?_⟩
        show RL w (if d < j then t + 1 else t) d b
        split
        · exact hb.mono (by omega)
        · exact hb
    · refine J.full j l h b ?_
      show RL w (if j < i then t + 1 else t) j b
      by_cases c : j < i
      · rw [if_pos c]
        rw [if_pos (by omega)] at hb
        exact hb
      · rw [if_neg c]
        rw [if_neg (by omega)] at hb
        exact hb
end PP

set_option Elab.async false
set_option linter.all false
set_option maxRecDepth 100000
set_option maxHeartbeats 2000000
namespace PP
open PySem PySem.Spec PyProof.Rows L2
theorem heads_eq (w : List SD) : ((srtR (tiesL w)).map rowD).map headF = ((srtR (tiesL w)).map fun r => r.getD 0 0).map PyData.int := by
  rw [List.map_map, List.map_map]
  apply List.map_congr_left
  intro n hn
  cases n with
  | nil => exact absurd rfl (tiesL_ne _ ((srtR_perm _).mem_iff.mp hn))
  | cons a r => rfl
theorem filt_eq (w : List SD) : ((rgD 0 (w.length : Int)).filter (resP w)).map id = (resL w).map PyData.int := by
  have e3 : rgD 0 (w.length : Int) = (rowI (List.range w.length)).map PyData.int := by simp [rgD, rowI]
  rw [List.map_id, e3, List.filter_map]
  rfl
theorem any_heads (w : List SD) (i : Int) : (((srtR (tiesL w)).map fun r => r.getD 0 0).any (· == i)) = !(resP w (.int i)) := by
  rw [List.any_map]
  show _ = !(!(srtR (tiesL w)).any fun r => r.getD 0 0 == i)
  rw [Bool.not_not]
  rfl
theorem shaped_str {s : Str} (h : PyData.strOk s = true) : SeqAt.shaped (.str s) = true := by
  show (PyData.canLay0 (.str s) && decide (PyData.depth (.str s) ≤ 64)) = true
  simp [PyData.canLay0, PyData.depth, h]
theorem eqv_str (s : Str) : PyData.eqv (.str s) (.str s) = true := by
  simp [PyData.eqv]
theorem sw_kind {k : Nat} {d : D} (h : d ∈ kindN k) : Sw 8 1 d := by
  have key : ∀ k : Nat, ∀ d ∈ kindN k, d.showable = true ∧ d.depth ≤ 1 ∧ d.shown.length ≤ 8 ∧ PyData.strOk d.shown = true ∧ d.hasDict = false := by
    intro k
    match k with
    | 0 =>
      intro d hd
      rcases List.mem_cons.mp hd with h | h
      · subst h; exact ⟨by decide +kernel, by simp [PyData.depth], by decide +kernel, by decide +kernel, rfl⟩
      · obtain ⟨i, rfl, a, b⟩ := mem_rgD h
        have := Sw.int (i := i) (by omega) (by omega)
        exact ⟨this.ok, this.dp, this.ln, this.ch, this.nd⟩
    | 1 =>
      intro d hd
      simp only [kindN, List.mem_cons, List.not_mem_nil, or_false] at hd
      subst hd
      exact ⟨by decide +kernel, by simp [PyData.depth], by decide +kernel, by decide +kernel, rfl⟩
    | 2 =>
      intro d hd
      simp only [kindN, List.mem_cons, List.not_mem_nil, or_false] at hd
      rcases hd with h | h | h <;> subst h <;> exact ⟨by decide +kernel, by simp [PyData.depth], by decide +kernel, by decide +kernel, rfl⟩
    | 3 =>
      intro d hd
      simp only [kindN, List.mem_cons, List.not_mem_nil, or_false] at hd
      subst hd
      exact ⟨by decide +kernel, by simp [PyData.depth], by decide +kernel, by decide +kernel, rfl⟩
    | k + 4 => intro d hd; simp [kindN] at hd
  have := key k d h
  exact ⟨this.1, this.2.1, this.2.2.1, this.2.2.2.1, this.2.2.2.2⟩
theorem sw_ints {ns : List Int} (h : ∀ i ∈ ns, 0 ≤ i ∧ i ≤ 100) : Sw (10 * ns.length + 3) 2 (tupI ns) := by
  have := Sw.tup (c := 8) (k := 1) (ds := ns.map PyData.int) fun d hd => by
    obtain ⟨i, hi, rfl⟩ := List.mem_map.mp hd
    have := h i hi
    exact .int (by omega) (by omega)
  rwa [List.length_map] at this
theorem sw_web {n : Nat} {w : List SD} (hw : Wb n w) (hn : n ≤ 100) : Sw 100000 64 (webD w) := by
  have h1 : ∀ d ∈ w.map stD, Sw 100 3 d := by
    intro d hd
    obtain ⟨s, hs, rfl⟩ := List.mem_map.mp hd
    obtain ⟨a, b, c⟩ := hw.2.2.1 s hs
    have hl := hw.2.1
    have := Sw.tup (c := 33) (k := 2) (ds := [s.1, tupI s.2]) fun d hd => by
      rcases List.mem_cons.mp hd with e | hd
      · subst e; exact (sw_kind b).mono (by omega) (by omega)
      · rcases List.mem_cons.mp hd with e | hd
        · subst e
          exact (sw_ints fun i hi => by have := c i hi; omega).mono (by omega) (by omega)
        · cases hd
    exact this.mono (by simp only [List.length_cons, List.length_nil]; omega) (by omega)
  have := Sw.tup h1
  have hl := hw.2.1
  have := line_big
  exact (Sw.tup h1).mono (by rw [List.length_map]; omega) (by omega)
theorem sw_ties {n : Nat} {w : List SD} (hw : Wb n w) (hn : n ≤ 100) : Sw 100000 64 (.tuple ((srtR (tiesL w)).map rowD)) := by
  have h3 : ∀ s ∈ w, s.2.length ≤ 3 := fun s hs => (hw.2.2.1 s hs).1
  have b2 := tiesTo_len h3 w.length (by omega)
  rw [tiesTo_all] at b2
  have b3 : (srtR (tiesL w)).length = (tiesL w).length := (srtR_perm _).length_eq
  have hl := hw.2.1
  have h1 : ∀ d ∈ (srtR (tiesL w)).map rowD, Sw 33 2 d := by
    intro d hd
    obtain ⟨r, hr, rfl⟩ := List.mem_map.mp hd
    obtain ⟨t, p, s, g, e1, e2, rfl⟩ := mem_tiesL.mp ((srtR_perm _).mem_iff.mp hr)
    have lt := (List.getElem?_eq_some_iff.mp e1).1
    have lp := (List.getElem?_eq_some_iff.mp e2).1
    have m1 := List.mem_of_getElem? e1
    have := h3 s m1
    have := (hw.2.2.1 s m1).2.2 g (List.mem_of_getElem? e2)
    exact sw_ints (ns := [g, (t : Int), (p : Int)]) fun i hi => by
      simp only [List.mem_cons, List.not_mem_nil, or_false] at hi
      rcases hi with h | h | h <;> subst h <;> omega
  have := line_big
  exact (Sw.tup h1).mono (by rw [List.length_map]; omega) (by omega)
theorem sw_res {n : Nat} {w : List SD} (hw : Wb n w) (hn : n ≤ 100) : Sw 100000 64 (tupI (resL w)) := by
  have hl := hw.2.1
  have := line_big
  have hlen : (resL w).length ≤ w.length := by
    unfold resL
    refine Nat.le_trans (List.length_filter_le _ _) ?_
    simp [rowI]
  refine (sw_ints fun i hi => ?_).mono (by omega) (by omega)
  obtain ⟨h1, _⟩ := List.mem_filter.mp hi
  unfold rowI at h1
  obtain ⟨j, hj, rfl⟩ := List.mem_map.mp h1
  have := List.mem_range.mp hj
  omega

theorem rp {d : D} {Q : D → Prop} (h : Sw 100000 64 d) (q : Q (.str d.shown)) : kRpr [d] Q := ⟨h.rpr (by omega) (Nat.le_trans (by omega) line_big), q⟩
/-- the same text twice -/
theorem sh2 {d : D} (h : Sw 100000 64 d) : SeqAt.shaped (.str d.shown) = true ∧ SeqAt.shaped (.str d.shown) = true := ⟨shaped_str h.ch, shaped_str h.ch⟩
theorem Wb.up {n m : Nat} {w : List SD} (h : Wb n w) (l : n ≤ m) : Wb m w := ⟨h.1, Nat.le_trans h.2.1 l, h.2.2.1, h.2.2.2⟩
end PP

set_option Elab.async false
set_option linter.all false
set_option maxRecDepth 100000
set_option maxHeartbeats 2000000
namespace PP
open PySem PySem.Spec PyProof.Rows L2
/-! ### who takes from a step -/
/-- without a word of rings -/
def Wr (n : Nat) (w : List SD) : Prop := 1 ≤ w.length ∧ w.length ≤ n ∧ ∀ s ∈ w, StOk w.length s
theorem Wb.wr {n : Nat} {w : List SD} (h : Wb n w) : Wr n w := ⟨h.1, h.2.1, h.2.2.1⟩
theorem Wr.up {n m : Nat} {w : List SD} (h : Wr n w) (l : n ≤ m) : Wr m w := ⟨h.1, Nat.le_trans h.2.1 l, h.2.2⟩
def tkAt (t : Nat) (ins : List Int) (g : Nat) : List Int := (ins.filter fun i => i == (g : Int)).map fun _ => (t : Int)
def tkTo (w : List SD) : Nat → Nat → List Int
  | 0, _ => []
  | t + 1, g => tkTo w t g ++ (match w[t]? with | some s => tkAt t s.2 g | none => [])
def tk (w : List SD) (g : Nat) : List Int := tkTo w w.length g
def tkP (w : List SD) (t p : Nat) (g : Nat) : List Int := tkTo w t g ++ (match w[t]? with | some s => tkAt t (s.2.take p) g | none => [])
def tkL (w : List SD) (f : Nat → List Int) : D := .list ((List.range w.length).map fun g => .list ((f g).map PyData.int))
def kTakers : KF := fun ds Q => ∃ w : List SD, ds = [webD w] ∧ Wr 100 w ∧ Q (tkL w (tk w))
theorem kTakers_mono : MonoC kTakers := fun ds Q Q' f ⟨w, h1, h2, q⟩ => ⟨w, h1, h2, f _ q⟩
theorem compL_nils {tg : DG} {te : DA} {Q : List (List D) → Prop} {ρ : En} (hs : ∀ (x : D) (k : List D → Prop), k [] → tg x ρ fun ρ' => te ρ' k) : ∀ (xs : List D) (acc : List (List D)), Q (acc ++ xs.map fun _ => []) → compL tg tYesD te Q ρ xs acc
  | [], acc, q => by simpa [compL] using q
  | x :: xs, acc, q => by
    unfold compL
    have := hs x (fun y => compL tg tYesD te Q ρ xs (acc ++ [y])) (compL_nils hs xs _ (by simpa using q))
    exact this
theorem tkAt_len (t g : Nat) (ins : List Int) : (tkAt t ins g).length ≤ ins.length := by
  unfold tkAt; rw [List.length_map]; exact List.length_filter_le _ _
theorem tkTo_len {n : Nat} {w : List SD} (h : Wr n w) (g : Nat) : ∀ t, (tkTo w t g).length ≤ 3 * t
  | 0 => by simp [tkTo]
  | t + 1 => by
    unfold tkTo
    rw [List.length_append]
    have := tkTo_len h g t
    split
    · rename_i s hs
      have := tkAt_len t g s.2
      have := (h.2.2 s (List.mem_of_getElem? hs)).1
      omega
    · simp; omega
theorem tkP_zero (w : List SD) (t : Nat) : tkP w t 0 = tkTo w t := by
  funext g
  unfold tkP
  split <;> simp [tkAt]
theorem tkP_full {w : List SD} {t : Nat} {s : SD} (h : w[t]? = some s) {p : Nat} (hp : s.2.length ≤ p) : tkP w t p = tkTo w (t + 1) := by
  funext g
  unfold tkP
  conv => rhs; unfold tkTo
  rw [h]
  simp only [List.take_of_length_le hp]
theorem tkP_succ {w : List SD} {t : Nat} {s : SD} (h : w[t]? = some s) {p j : Nat} (hp : s.2[p]? = some (j : Int)) (g : Nat) : tkP w t (p + 1) g = if g = j then tkP w t p g ++ [(t : Int)] else tkP w t p g := by
  unfold tkP
  rw [h]
  simp only
  have e : s.2.take (p + 1) = s.2.take p ++ [(j : Int)] := by
    rw [List.take_add_one, hp]; rfl
  rw [e]
  unfold tkAt
  rw [List.filter_append, List.map_append]
  by_cases c : g = j
  · subst c
    simp
  · have : ((j : Int) == (g : Int)) = false := by simp; omega
    simp [c, this]
theorem tkL_set {w : List SD} {f f' : Nat → List Int} {j : Nat} (hj : j < w.length) (t : Int) (h : ∀ g, f' g = if g = j then f g ++ [t] else f g) :
    ((List.range w.length).map fun g => PyData.list ((f g).map PyData.int)).set j (.list ((f j).map PyData.int ++ [.int t])) = (List.range w.length).map fun g => PyData.list ((f' g).map PyData.int) := by
  apply List.ext_getElem?
  intro i
  rw [List.getElem?_set]
  by_cases c : j = i
  · subst c
    rw [if_pos rfl, if_pos (by simpa using hj), List.getElem?_map, List.getElem?_range hj]
    simp [h]
  · rw [if_neg c, List.getElem?_map, List.getElem?_map]
    by_cases hi : i < w.length
    · rw [List.getElem?_range hi]
      simp [h, Ne.symm c]
    · rw [List.getElem?_eq_none (by simpa using hi)]
      rfl
theorem mem_tkTo {w : List SD} {g : Nat} {k : Int} : ∀ {t : Nat}, k ∈ tkTo w t g ↔ ∃ b : Nat, k = (b : Int) ∧ b < t ∧ Tie w g b
  | 0 => by simp [tkTo]
  | t + 1 => by
    unfold tkTo
    rw [List.mem_append, mem_tkTo (t := t)]
    constructor
    · rintro (⟨b, e, l, h⟩ | h)
      · exact ⟨b, e, by omega, h⟩
      · split at h
        · rename_i s hs
          unfold tkAt at h
          obtain ⟨i, hi, rfl⟩ := List.mem_map.mp h
          obtain ⟨h1, h2⟩ := List.mem_filter.mp hi
          have : i = (g : Int) := by simpa using h2
          exact ⟨t, rfl, by omega, s, hs, this ▸ h1⟩
        · cases h
    · rintro ⟨b, e, l, h⟩
      by_cases c : b < t
      · exact .inl ⟨b, e, c, h⟩
      · have : b = t := by omega
        subst this
        obtain ⟨s, hs, m⟩ := h
        right
        rw [hs]
        exact List.mem_map.mpr ⟨(g : Int), List.mem_filter.mpr ⟨m, by simp⟩, e.symm⟩
theorem mem_tk {w : List SD} {g : Nat} {k : Int} : k ∈ tk w g ↔ ∃ b : Nat, k = (b : Int) ∧ Tie w g b := by
  unfold tk
  rw [mem_tkTo]
  constructor
  · rintro ⟨b, e, _, h⟩; exact ⟨b, e, h⟩
  · rintro ⟨b, e, h⟩
    have h' := h
    obtain ⟨s, hs, _⟩ := h'
    exact ⟨b, e, (List.getElem?_eq_some_iff.mp hs).1, h⟩
theorem tk_empty {w : List SD} {g : Nat} : (tk w g).isEmpty = !((srtR (tiesL w)).any fun r => r.getD 0 0 == (g : Int)) := by
  rw [Bool.eq_iff_iff, List.isEmpty_iff, Bool.not_eq_true', List.any_eq_false]
  constructor
  · intro h r hr z
    have hr := (srtR_perm _).mem_iff.mp hr
    obtain ⟨t, p, s, i, e1, e2, rfl⟩ := mem_tiesL.mp hr
    have z : i = (g : Int) := by simpa using z
    subst z
    have : ((t : Nat) : Int) ∈ tk w g := mem_tk.mpr ⟨t, rfl, s, e1, List.mem_of_getElem? e2⟩
    rw [h] at this
    cases this
  · intro h
    rw [List.eq_nil_iff_forall_not_mem]
    intro k hk
    obtain ⟨b, rfl, s, hs, m⟩ := mem_tk.mp hk
    obtain ⟨p, hp, e⟩ := List.mem_iff_getElem.mp m
    have := h [(g : Int), (b : Int), (p : Int)] ((srtR_perm _).mem_iff.mpr (mem_tiesL.mpr ⟨b, p, s, _, hs, by rw [List.getElem?_eq_getElem hp, e], rfl⟩))
    simp at this
end PP

set_option Elab.async false
set_option linter.all false
set_option maxRecDepth 100000
set_option maxHeartbeats 2000000
namespace PP
open PySem PySem.Spec PyProof.Rows L2
/-! ### what a web means -/
/-- the worth of a step from those of its inputs; x is what is passed to it -/
def stepV (d : D) (x : Int) (ys : List Int) : Int := match d with
  | .int k => k
  | .str s => if s = "in" then x else if s = "neg" then -(ys.getD 0 0) else if s = "+" then ys.getD 0 0 + ys.getD 1 0
    else if s = "-" then ys.getD 0 0 - ys.getD 1 0 else if s = "*" then ys.getD 0 0 * ys.getD 1 0 else if ys.getD 0 0 > 0 then ys.getD 1 0 else ys.getD 2 0
  | _ => 0
def isIn (s : SD) : Bool := match s.1 with | .str x => decide (x = "in") | _ => false
def inN (w : List SD) (i : Nat) : Nat := ((w.take i).filter isIn).length
def mvF (w : List SD) (ws : List Int) : Nat → Nat → Int
  | 0, _ => 0
  | f + 1, i => stepV (w.getD i (.none, [])).1 (ws.getD (inN w i) 0) ((w.getD i (.none, [])).2.map fun j => mvF w ws f j.toNat)
def mv (w : List SD) (ws : List Int) (i : Nat) : Int := mvF w ws w.length i
theorem getD_at {α : Type} {w : List α} {i : Nat} {d : α} (h : i < w.length) : w.getD i d = w[i] := by
  rw [List.getD_eq_getElem?_getD, List.getElem?_eq_getElem h]; rfl
theorem mvF_stable {w : List SD} {ws : List Int} (h : ∀ s ∈ w, StOk w.length s) {rk : Nat → Nat} (h2 : ∀ i s, w[i]? = some s → ∀ j ∈ s.2, rk j.toNat < rk i) : ∀ (m i f g : Nat), rk i ≤ m → i < w.length → rk i < f → rk i < g → mvF w ws f i = mvF w ws g i := by
  intro m
  induction m with
  | zero =>
    intro i f g hm hi hf hg
    obtain ⟨f, rfl⟩ : ∃ f', f = f' + 1 := ⟨f - 1, by omega⟩
    obtain ⟨g, rfl⟩ : ∃ g', g = g' + 1 := ⟨g - 1, by omega⟩
    simp only [mvF, getD_at hi]
    congr 1
    apply List.map_congr_left
    intro j hj
    have := h2 i w[i] (List.getElem?_eq_getElem hi) j hj
    omega
  | succ m ih =>
    intro i f g hm hi hf hg
    obtain ⟨f, rfl⟩ : ∃ f', f = f' + 1 := ⟨f - 1, by omega⟩
    obtain ⟨g, rfl⟩ : ∃ g', g = g' + 1 := ⟨g - 1, by omega⟩
    simp only [mvF, getD_at hi]
    congr 1
    apply List.map_congr_left
    intro j hj
    have l := h2 i w[i] (List.getElem?_eq_getElem hi) j hj
    have b := (h w[i] (List.getElem_mem hi)).2.2 j hj
    exact ih j.toNat f g (by omega) (by omega) (by omega) (by omega)
theorem mv_eq {n : Nat} {w : List SD} {ws : List Int} (hw : Wb n w) {i : Nat} (hi : i < w.length) : mv w ws i = stepV w[i].1 (ws.getD (inN w i) 0) (w[i].2.map fun j => mv w ws j.toNat) := by
  obtain ⟨a1, a2, a3, rk, a4, a5⟩ := hw
  unfold mv
  have hr := a4 i hi
  obtain ⟨f, hf⟩ : ∃ f, w.length = f + 1 := ⟨w.length - 1, by omega⟩
  have e : mvF w ws w.length i = mvF w ws (w.length + 1) i := mvF_stable a3 a5 _ i _ _ (Nat.le_refl _) hi hr (by omega)
  rw [e]
  simp only [mvF, getD_at hi]
theorem kind_two {n : Nat} {d : D} (h : d ∈ kindN n) (e : d = .str "+" ∨ d = .str "-" ∨ d = .str "*") : n = 2 := by
  match n with
  | 0 => 
    rcases List.mem_cons.mp h with q | q
    · subst q
      rcases e with e | e | e <;> exact absurd (PyData.str.inj e) (by decide +kernel)
    · unfold rgD at q
      obtain ⟨k, _, rfl⟩ := List.mem_map.mp q
      rcases e with e | e | e <;> cases e
  | 1 =>
    simp only [kindN, List.mem_cons, List.not_mem_nil, or_false] at h
    subst h
    rcases e with e | e | e <;> exact absurd (PyData.str.inj e) (by decide +kernel)
  | 2 => rfl
  | 3 =>
    simp only [kindN, List.mem_cons, List.not_mem_nil, or_false] at h
    subst h
    rcases e with e | e | e <;> exact absurd (PyData.str.inj e) (by decide +kernel)
  | n + 4 => simp [kindN] at h
theorem getD_bd {B : Nat} {ys : List Int} (h : ∀ y ∈ ys, y.natAbs ≤ B) (i : Nat) : (ys.getD i 0).natAbs ≤ B := by
  rw [List.getD_eq_getElem?_getD]
  cases e : ys[i]? with
  | none => simp
  | some y => exact h y (List.mem_of_getElem? e)
/-- how great a step's worth can be -/
theorem stepV_bd {n : Nat} {d : D} {x : Int} {ys : List Int} {B C : Nat} (hk : d ∈ kindN n) (h0 : 99 ≤ C) (hx : x.natAbs ≤ C) (h1 : 2 * B ≤ C) (h2 : d = .str "*" → B * B ≤ C) (hy : ∀ y ∈ ys, y.natAbs ≤ B) : (stepV d x ys).natAbs ≤ C := by
  have g := getD_bd hy
  have g0 := g 0
  have g1 := g 1
  have g2 := g 2
  match n with
  | 0 =>
    rcases List.mem_cons.mp hk with q | q
    · subst q; exact hx
    · unfold rgD at q
      obtain ⟨k, hk2, rfl⟩ := List.mem_map.mp q
      have := List.mem_range.mp hk2
      show (-99 + (k : Int)).natAbs ≤ C
      omega
  | 1 =>
    simp only [kindN, List.mem_cons, List.not_mem_nil, or_false] at hk
    subst hk
    show (-(ys.getD 0 0)).natAbs ≤ C
    omega
  | 2 =>
    simp only [kindN, List.mem_cons, List.not_mem_nil, or_false] at hk
    rcases hk with q | q | q <;> subst q
    · show (ys.getD 0 0 + ys.getD 1 0).natAbs ≤ C
      omega
    · show (ys.getD 0 0 - ys.getD 1 0).natAbs ≤ C
      omega
    · show (ys.getD 0 0 * ys.getD 1 0).natAbs ≤ C
      rw [Int.natAbs_mul]
      exact Nat.le_trans (Nat.mul_le_mul g0 g1) (h2 rfl)
  | 3 =>
    simp only [kindN, List.mem_cons, List.not_mem_nil, or_false] at hk
    subst hk
    show (if ys.getD 0 0 > 0 then ys.getD 1 0 else ys.getD 2 0).natAbs ≤ C
    split <;> omega
  | n + 4 => simp [kindN] at hk
theorem mv_bd {n : Nat} {w : List SD} {ws : List Int} (hw : Wb n w) (B : Nat → Nat) (h0 : 99 ≤ B 0) (hs : ∀ x ∈ ws, x.natAbs ≤ B 0) (h1 : ∀ r, 2 * B r ≤ B (r + 1)) (h2 : ∀ s ∈ w, s.1 = .str "*" → ∀ r, B r * B r ≤ B (r + 1)) (i : Nat) (hi : i < w.length) : (mv w ws i).natAbs ≤ B w.length := by
  have hw0 := hw
  obtain ⟨a1, a2, a3, rk, a4, a5⟩ := hw
  have mono : ∀ k r, B r ≤ B (r + k) := by
    intro k
    induction k with
    | zero => intro r; exact Nat.le_refl _
    | succ k ih => intro r; have := ih r; have := h1 (r + k); show B r ≤ B (r + k + 1); omega
  have key : ∀ (m i : Nat), rk i ≤ m → i < w.length → (mv w ws i).natAbs ≤ B (m + 1) := by
    intro m
    induction m with
    | zero =>
      intro i hm hi
      rw [mv_eq hw0 hi]
      have z : w[i].2 = [] := by
        cases e : w[i].2 with
        | nil => rfl
        | cons j r =>
          have := a5 i w[i] (List.getElem?_eq_getElem hi) j (by rw [e]; exact List.mem_cons_self)
          omega
      have m0 := mono 1 0
      refine stepV_bd (a3 w[i] (List.getElem_mem hi)).2.1 (B := B 0) (by omega) (Nat.le_trans (getD_bd hs _) m0) (h1 0) (fun e => h2 w[i] (List.getElem_mem hi) e 0) ?_
      rw [z]
      intro y hy
      cases hy
    | succ m ih =>
      intro i hm hi
      rw [mv_eq hw0 hi]
      have m0 := mono (m + 1 + 1) 0
      rw [Nat.zero_add] at m0
      refine stepV_bd (a3 w[i] (List.getElem_mem hi)).2.1 (B := B (m + 1)) (by omega) (Nat.le_trans (getD_bd hs _) m0) (h1 _) (fun e => h2 w[i] (List.getElem_mem hi) e _) ?_
      intro y hy
      obtain ⟨j, hj, rfl⟩ := List.mem_map.mp hy
      have l := a5 i w[i] (List.getElem?_eq_getElem hi) j hj
      have b := (a3 w[i] (List.getElem_mem hi)).2.2 j hj
      exact ih j.toNat (by omega) (by omega)
  have := key (w.length - 1) i (by have := a4 i hi; omega) hi
  rwa [Nat.sub_add_cancel a1] at this
/-- two bounds -/
def bdM (r : Nat) : Nat := 2 ^ (140 * 2 ^ r)
def bdA (r : Nat) : Nat := 2 ^ (140 + r)
theorem bdM_mul (r : Nat) : bdM r * bdM r ≤ bdM (r + 1) := by
  unfold bdM
  rw [← Nat.pow_add, Nat.pow_succ]
  exact Nat.pow_le_pow_right (by decide) (by omega)
theorem bdM_two (r : Nat) : 2 * bdM r ≤ bdM (r + 1) := by
  unfold bdM
  rw [← Nat.pow_succ', Nat.pow_succ 2 r]
  have : 1 ≤ 2 ^ r := Nat.one_le_two_pow
  exact Nat.pow_le_pow_right (by decide) (by omega)
theorem bdA_two (r : Nat) : 2 * bdA r ≤ bdA (r + 1) := by
  unfold bdA
  rw [← Nat.pow_succ']
  exact Nat.pow_le_pow_right (by decide) (by omega)
end PP

set_option Elab.async false
set_option linter.all false
set_option maxRecDepth 100000
set_option maxHeartbeats 2000000
namespace PP
open PySem PySem.Spec PyProof.Rows L2
def inpD (w : List SD) (k : Int) : List Int := (w.getD k.toNat (.none, [])).2
def readyB (w : List SD) (r : List Int) (k : Int) : Bool := !(r.any (· == k)) && (inpD w k).all fun a => r.any (· == a)
def readyL (w : List SD) (r : List Int) : List Int := (rowI (List.range w.length)).filter (readyB w r)
def kReady : KF := fun ds Q => ∃ (w : List SD) (r : List Int), ds = [webD w, .list (r.map PyData.int)] ∧ Wb 100 w ∧ r.length ≤ 1000 ∧ Q (.list ((readyL w r).map PyData.int))
theorem kReady_mono : MonoC kReady := fun ds Q Q' f ⟨w, r, h1, h2, h3, q⟩ => ⟨w, r, h1, h2, h3, f _ q⟩
/-- all steps, the givers first -/
structure Fst (w : List SD) (l : List Int) : Prop where
  nd : l.Nodup
  mem : ∀ a : Int, a ∈ l ↔ ∃ b : Nat, a = b ∧ b < w.length
  bef : ∀ (p : List Int) (k : Int) (q : List Int), l = p ++ k :: q → ∀ a ∈ inpD w k, a ∈ p
def kFirst : KF := fun ds Q => ∃ w : List SD, ds = [webD w] ∧ Wb 100 w ∧ ∀ l, Fst w l → Q (.list (l.map PyData.int))
theorem kFirst_mono : MonoC kFirst := fun ds Q Q' f ⟨w, h1, h2, q⟩ => ⟨w, h1, h2, fun l h => f _ (q l h)⟩
def MulOk (d : D) (ys : List Int) : Prop := d = .str "*" → CMulW (ys.getD 0 0) (ys.getD 1 0)
def kWof : KF := fun ds Q => ∃ (d : D) (ys : List Int), ds = [d, .list (ys.map PyData.int)] ∧ d ∈ kindN ys.length ∧ d ≠ .str "in" ∧ MulOk d ys ∧ ∀ x, Q (.int (stepV d x ys))
theorem kWof_mono : MonoC kWof := fun ds Q Q' f ⟨d, ys, h1, h2, h3, h4, q⟩ => ⟨d, ys, h1, h2, h3, h4, fun x => f _ (q x)⟩
def kPass : KF := fun ds Q => ∃ (w : List SD) (ws : List Int), ds = [webD w, tupI ws] ∧ Wb 100 w ∧ ws.length = inN w w.length ∧ ∀ ks : List (D × D), (∀ (k : Nat) (s : SD), w[k]? = some s → isIn s = true → dGet ks (.inl (k : Int)) = some (.int (ws.getD (inN w k) 0))) → Q (.dict ks)
theorem kPass_mono : MonoC kPass := fun ds Q Q' f ⟨w, ws, h1, h2, h3, q⟩ => ⟨w, ws, h1, h2, h3, fun l h => f _ (q l h)⟩
/-- a web and worths for it whose products are not too great -/
structure Mw (w : List SD) (ws : List Int) : Prop where
  wb : Wb 100 w
  ln : ws.length = inN w w.length
  mul : ∀ (i : Nat) (s : SD), w[i]? = some s → MulOk s.1 (s.2.map fun j => mv w ws j.toNat)
def kMean : KF := fun ds Q => ∃ (w : List SD) (ws : List Int), ds = [webD w, tupI ws] ∧ Mw w ws ∧ Q (tupI ((resL w).map fun k => mv w ws k.toNat))
theorem kMean_mono : MonoC kMean := fun ds Q Q' f ⟨w, ws, h1, h2, q⟩ => ⟨w, ws, h1, h2, f _ q⟩
def kMade : KF := fun ds Q => ∃ (w : List SD) (ws : List Int) (k : Nat) (ys : List Int) (s : SD), ds = [webD w, tupI ws, .int (k : Int), .list (ys.map PyData.int)] ∧ Wb 100 w ∧ w[k]? = some s ∧ ys.length = s.2.length ∧ ws.length = inN w w.length ∧ MulOk s.1 ys ∧ Q (.int (stepV s.1 (ws.getD (inN w k) 0) ys))
theorem kMade_mono : MonoC kMade := fun ds Q Q' f ⟨w, ws, k, ys, s, h1, h2, h3, h4, h5, h6, q⟩ => ⟨w, ws, k, ys, s, h1, h2, h3, h4, h5, h6, f _ q⟩
def kWorth : KF := fun ds Q => ∃ (w : List SD) (ws : List Int) (k : Nat), ds = [webD w, tupI ws, .int (k : Int)] ∧ Mw w ws ∧ k < w.length ∧ Q (.int (mv w ws k))
theorem kWorth_mono : MonoC kWorth := fun ds Q Q' f ⟨w, ws, k, h1, h2, h3, q⟩ => ⟨w, ws, k, h1, h2, h3, f _ q⟩
def kWorths : KF := fun ds Q => ∃ (e : D) (w : List SD), ds = [e, webD w] ∧ Wb 100 w ∧ ∀ ws : List Int, ws.length = inN w w.length → (∀ x ∈ ws, x.natAbs ≤ 1000000000) → Q (tupI ws)
theorem kWorths_mono : MonoC kWorths := fun ds Q Q' f ⟨e, w, h1, h2, q⟩ => ⟨e, w, h1, h2, fun l a b => f _ (q l a b)⟩
def kResL : KF := fun ds Q => ∃ w : List SD, ds = [webD w] ∧ Wb 100 w ∧ Q (.list ((resL w).map PyData.int))
theorem kResL_mono : MonoC kResL := fun ds Q Q' f ⟨w, h1, h2, q⟩ => ⟨w, h1, h2, f _ q⟩
theorem eqv_strs (a b : Str) : PyData.eqv (.str a) (.str b) = decide (a = b) := by
  simp [PyData.eqv]
  rfl
theorem eqv_is (i : Int) (b : Str) : PyData.eqv (.int i) (.str b) = false := by
  simp [PyData.eqv]
theorem isIn_eqv {n : Nat} {s : SD} (h : s.1 ∈ kindN n) : PyData.eqv s.1 (.str "in") = isIn s := by
  obtain ⟨d, ins⟩ := s
  have h : d ∈ kindN n := h
  cases d <;> first
    | exact eqv_strs _ _
    | exact eqv_is _ _
    | (exfalso
       match n, h with
       | 0, h => rcases List.mem_cons.mp h with q | q
                 · cases q
                 · obtain ⟨i, e, _⟩ := mem_rgD q; cases e
       | 1, h => simp [kindN] at h
       | 2, h => simp [kindN] at h
       | 3, h => simp [kindN] at h
       | n + 4, h => simp [kindN] at h)
theorem inN_succ {w : List SD} {i : Nat} (h : i < w.length) : inN w (i + 1) = inN w i + (if isIn w[i] = true then 1 else 0) := by
  unfold inN
  rw [List.take_succ_eq_append_getElem h, List.filter_append, List.length_append]
  congr 1
  by_cases q : isIn w[i] = true <;> simp [List.filter_cons, q]
theorem inN_mono {w : List SD} : ∀ (d i : Nat), i + d ≤ w.length → inN w i ≤ inN w (i + d)
  | 0, i, _ => Nat.le_refl _
  | d + 1, i, h => by
    have := inN_mono (w := w) d i (by omega)
    have e := inN_succ (w := w) (i := i + d) (by omega)
    show inN w i ≤ inN w (i + d + 1)
    omega
theorem inN_lt {w : List SD} {k : Nat} (h : k < w.length) (hi : isIn w[k] = true) : inN w k < inN w w.length := by
  have e := inN_succ h
  rw [if_pos hi] at e
  have := inN_mono (w := w) (w.length - (k + 1)) (k + 1) (by omega)
  rw [show k + 1 + (w.length - (k + 1)) = w.length from by omega] at this
  omega
end PP

set_option Elab.async false
set_option linter.all false
set_option maxRecDepth 100000
set_option maxHeartbeats 2000000
namespace PP
open PySem PySem.Spec PyProof.Rows L2
theorem any_is {l : List Int} {a : Int} : l.any (· == a) = true ↔ a ∈ l := by
  rw [List.any_eq_true]
  constructor
  · rintro ⟨x, h, e⟩
    have e : x = a := by simpa using e
    exact e ▸ h
  · exact fun h => ⟨a, h, by simp⟩
theorem mem_rowI {n : Nat} {a : Int} : a ∈ rowI (List.range n) ↔ ∃ b : Nat, a = b ∧ b < n := by
  unfold rowI
  rw [List.mem_map]
  exact ⟨fun ⟨b, h, e⟩ => ⟨b, e.symm, List.mem_range.mp h⟩, fun ⟨b, e, h⟩ => ⟨b, List.mem_range.mpr h, e.symm⟩⟩
theorem rowI_nodup (n : Nat) : (rowI (List.range n)).Nodup := by
  unfold rowI
  exact List.Pairwise.map _ (fun a b (h : a ≠ b) => by omega) List.nodup_range
theorem mem_readyL {w : List SD} {r : List Int} {a : Int} : a ∈ readyL w r ↔ (∃ b : Nat, a = b ∧ b < w.length) ∧ a ∉ r ∧ ∀ x ∈ inpD w a, x ∈ r := by
  unfold readyL
  rw [List.mem_filter, mem_rowI]
  unfold readyB
  rw [Bool.and_eq_true, Bool.not_eq_true', List.all_eq_true]
  refine and_congr_right fun _ => and_congr ?_ ?_
  · rw [← Bool.not_eq_true, any_is]
  · exact forall_congr' fun x => forall_congr' fun _ => any_is
structure Fin' (w : List SD) (l : List Int) : Prop where
  nd : l.Nodup
  mem : ∀ a : Int, a ∈ l → ∃ b : Nat, a = b ∧ b < w.length
  bef : ∀ (p : List Int) (k : Int) (q : List Int), l = p ++ k :: q → ∀ a ∈ inpD w k, a ∈ p
theorem fin_nil (w : List SD) : Fin' w [] := ⟨.nil, fun a h => (nomatch h), fun p k q e => (by cases p <;> cases e)⟩
theorem Fin'.len {w : List SD} {l : List Int} (h : Fin' w l) : l.length ≤ w.length := pig _ _ h.nd fun x hx => by
  obtain ⟨b, rfl, hb⟩ := h.mem x hx
  omega
theorem Fin'.more {w : List SD} {l : List Int} (h : Fin' w l) : Fin' w (l ++ readyL w l) := by
  refine ⟨?_, fun a ha => ?_, fun p k q e a ha => ?_⟩
  · rw [List.nodup_append]
    refine ⟨h.nd, (rowI_nodup _).sublist List.filter_sublist, fun x hx y hy e => ?_⟩
    subst e
    exact (mem_readyL.mp hy).2.1 hx
  · rcases List.mem_append.mp ha with ha | ha
    · exact h.mem a ha
    · exact (mem_readyL.mp ha).1
  · rcases List.append_eq_append_iff.mp e with ⟨m, e1, e2⟩ | ⟨m, e1, e2⟩
    · have hk : k ∈ readyL w l := by rw [e2]; simp
      have := (mem_readyL.mp hk).2.2 a ha
      rw [e1]
      exact List.mem_append_left _ this
    · cases m with
      | nil =>
        have hk : k ∈ readyL w l := by
          have e2 : k :: q = readyL w l := by simpa using e2
          rw [← e2]; exact List.mem_cons_self
        have := (mem_readyL.mp hk).2.2 a ha
        rw [e1] at this
        simpa using this
      | cons c m =>
        rw [List.cons_append] at e2
        obtain ⟨rfl, rfl⟩ := List.cons.inj e2
        exact h.bef p k m e1 a ha
theorem Fin'.all {n : Nat} {w : List SD} {l : List Int} (hw : Wb n w) (h : Fin' w l) (z : readyL w l = []) : Fst w l := by
  obtain ⟨a1, a2, a3, rk, a4, a5⟩ := hw
  refine ⟨h.nd, fun a => ⟨h.mem a, ?_⟩, h.bef⟩
  rintro ⟨b, rfl, hb⟩
  have key : ∀ (m b : Nat), rk b ≤ m → b < w.length → (b : Int) ∈ l := by
    intro m
    induction m with
    | zero =>
      intro b hm hb
      by_cases q : (b : Int) ∈ l
      · exact q
      · exfalso
        have : (b : Int) ∈ readyL w l := mem_readyL.mpr ⟨⟨b, rfl, hb⟩, q, fun x hx => by
          unfold inpD at hx
          rw [Int.toNat_natCast, getD_at hb] at hx
          have := a5 b w[b] (List.getElem?_eq_getElem hb) x hx
          omega⟩
        rw [z] at this
        cases this
    | succ m ih =>
      intro b hm hb
      by_cases q : (b : Int) ∈ l
      · exact q
      · exfalso
        have : (b : Int) ∈ readyL w l := mem_readyL.mpr ⟨⟨b, rfl, hb⟩, q, fun x hx => by
          unfold inpD at hx
          rw [Int.toNat_natCast, getD_at hb] at hx
          have l := a5 b w[b] (List.getElem?_eq_getElem hb) x hx
          have g := (a3 w[b] (List.getElem_mem hb)).2.2 x hx
          have := ih x.toNat (by omega) (by omega)
          rwa [Int.toNat_of_nonneg g.1] at this⟩
        rw [z] at this
        cases this
  exact key _ b (Nat.le_refl _) hb
end PP

set_option Elab.async false
set_option linter.all false
set_option maxRecDepth 100000
set_option maxHeartbeats 2000000
namespace PP
open PySem PySem.Spec PyProof.Rows L2
/-! ### kinds compared -/
theorem kindCases {n : Nat} {d : D} (h : d ∈ kindN n) : (n = 0 ∧ (d = .str "in" ∨ ∃ i : Int, d = .int i)) ∨ (n = 1 ∧ d = .str "neg") ∨ (n = 2 ∧ (d = .str "+" ∨ d = .str "-" ∨ d = .str "*")) ∨ (n = 3 ∧ d = .str "pick") := by
  match n, h with
  | 0, h =>
    refine .inl ⟨rfl, ?_⟩
    rcases List.mem_cons.mp h with q | q
    · exact .inl q
    · obtain ⟨i, e, _⟩ := mem_rgD q
      exact .inr ⟨i, e⟩
  | 1, h => exact .inr (.inl ⟨rfl, by simpa [kindN] using h⟩)
  | 2, h => exact .inr (.inr (.inl ⟨rfl, by simpa [kindN] using h⟩))
  | 3, h => exact .inr (.inr (.inr ⟨rfl, by simpa [kindN] using h⟩))
  | n + 4, h => simp [kindN] at h
theorem shaped_int (i : Int) : SeqAt.shaped (.int i) = true := by simp [SeqAt.shaped, PyData.canLay0, PyData.depth]
theorem sh_in : SeqAt.shaped (.str "in") = true := by decide +kernel
theorem sh_neg : SeqAt.shaped (.str "neg") = true := by decide +kernel
theorem sh_add : SeqAt.shaped (.str "+") = true := by decide +kernel
theorem sh_sub : SeqAt.shaped (.str "-") = true := by decide +kernel
theorem sh_mul : SeqAt.shaped (.str "*") = true := by decide +kernel
theorem sh_pick : SeqAt.shaped (.str "pick") = true := by decide +kernel
theorem shaped_kind {n : Nat} {d : D} (h : d ∈ kindN n) : SeqAt.shaped d = true := by
  rcases kindCases h with ⟨_, h | ⟨i, h⟩⟩ | ⟨_, h⟩ | ⟨_, h | h | h⟩ | ⟨_, h⟩ <;> subst h <;> first | exact shaped_int _ | decide +kernel
theorem eq_in_in : PyData.eqv (.str "in") (.str "in") = true := by rw [eqv_strs]; decide +kernel
theorem eq_in_neg : PyData.eqv (.str "in") (.str "neg") = false := by rw [eqv_strs]; decide +kernel
theorem eq_in_add : PyData.eqv (.str "in") (.str "+") = false := by rw [eqv_strs]; decide +kernel
theorem eq_in_sub : PyData.eqv (.str "in") (.str "-") = false := by rw [eqv_strs]; decide +kernel
theorem eq_in_mul : PyData.eqv (.str "in") (.str "*") = false := by rw [eqv_strs]; decide +kernel
theorem eq_in_pick : PyData.eqv (.str "in") (.str "pick") = false := by rw [eqv_strs]; decide +kernel
theorem eq_neg_in : PyData.eqv (.str "neg") (.str "in") = false := by rw [eqv_strs]; decide +kernel
theorem eq_neg_neg : PyData.eqv (.str "neg") (.str "neg") = true := by rw [eqv_strs]; decide +kernel
theorem eq_neg_add : PyData.eqv (.str "neg") (.str "+") = false := by rw [eqv_strs]; decide +kernel
theorem eq_neg_sub : PyData.eqv (.str "neg") (.str "-") = false := by rw [eqv_strs]; decide +kernel
theorem eq_neg_mul : PyData.eqv (.str "neg") (.str "*") = false := by rw [eqv_strs]; decide +kernel
theorem eq_neg_pick : PyData.eqv (.str "neg") (.str "pick") = false := by rw [eqv_strs]; decide +kernel
theorem eq_add_in : PyData.eqv (.str "+") (.str "in") = false := by rw [eqv_strs]; decide +kernel
theorem eq_add_neg : PyData.eqv (.str "+") (.str "neg") = false := by rw [eqv_strs]; decide +kernel
theorem eq_add_add : PyData.eqv (.str "+") (.str "+") = true := by rw [eqv_strs]; decide +kernel
theorem eq_add_sub : PyData.eqv (.str "+") (.str "-") = false := by rw [eqv_strs]; decide +kernel
theorem eq_add_mul : PyData.eqv (.str "+") (.str "*") = false := by rw [eqv_strs]; decide +kernel
theorem eq_add_pick : PyData.eqv (.str "+") (.str "pick") = false := by rw [eqv_strs]; decide +kernel
theorem eq_sub_in : PyData.eqv (.str "-") (.str "in") = false := by rw [eqv_strs]; decide +kernel
theorem eq_sub_neg : PyData.eqv (.str "-") (.str "neg") = false := by rw [eqv_strs]; decide +kernel
theorem eq_sub_add : PyData.eqv (.str "-") (.str "+") = false := by rw [eqv_strs]; decide +kernel
theorem eq_sub_sub : PyData.eqv (.str "-") (.str "-") = true := by rw [eqv_strs]; decide +kernel
theorem eq_sub_mul : PyData.eqv (.str "-") (.str "*") = false := by rw [eqv_strs]; decide +kernel
theorem eq_sub_pick : PyData.eqv (.str "-") (.str "pick") = false := by rw [eqv_strs]; decide +kernel
theorem eq_mul_in : PyData.eqv (.str "*") (.str "in") = false := by rw [eqv_strs]; decide +kernel
theorem eq_mul_neg : PyData.eqv (.str "*") (.str "neg") = false := by rw [eqv_strs]; decide +kernel
theorem eq_mul_add : PyData.eqv (.str "*") (.str "+") = false := by rw [eqv_strs]; decide +kernel
theorem eq_mul_sub : PyData.eqv (.str "*") (.str "-") = false := by rw [eqv_strs]; decide +kernel
theorem eq_mul_mul : PyData.eqv (.str "*") (.str "*") = true := by rw [eqv_strs]; decide +kernel
theorem eq_mul_pick : PyData.eqv (.str "*") (.str "pick") = false := by rw [eqv_strs]; decide +kernel
theorem eq_pick_in : PyData.eqv (.str "pick") (.str "in") = false := by rw [eqv_strs]; decide +kernel
theorem eq_pick_neg : PyData.eqv (.str "pick") (.str "neg") = false := by rw [eqv_strs]; decide +kernel
theorem eq_pick_add : PyData.eqv (.str "pick") (.str "+") = false := by rw [eqv_strs]; decide +kernel
theorem eq_pick_sub : PyData.eqv (.str "pick") (.str "-") = false := by rw [eqv_strs]; decide +kernel
theorem eq_pick_mul : PyData.eqv (.str "pick") (.str "*") = false := by rw [eqv_strs]; decide +kernel
theorem eq_pick_pick : PyData.eqv (.str "pick") (.str "pick") = true := by rw [eqv_strs]; decide +kernel
/-! ### dicts: what is put there is got -/
theorem dGet_snoc {c c' : Key} {d : D} : ∀ {ks : List (D × D)}, dGet (ks ++ [(keyD c, d)]) c' = match dGet ks c' with | some x => some x | none => if c = c' then some d else none
  | [] => by
    show (if kOf (keyD c) = some c' then some d else dGet [] c') = if c = c' then some d else none
    rw [kOf_keyD]
    by_cases q : c = c'
    · rw [if_pos (by rw [q]), if_pos q]
    · rw [if_neg (fun z => q (Option.some.inj z)), if_neg q]; rfl
  | (k, x) :: ks => by
    show (if kOf k = some c' then some x else dGet (ks ++ [(keyD c, d)]) c') = match (if kOf k = some c' then some x else dGet ks c') with | some x => some x | none => if c = c' then some d else none
    by_cases q : kOf k = some c'
    · rw [if_pos q, if_pos q]
    · rw [if_neg q, if_neg q]; exact dGet_snoc
theorem dGet_repl {c c' : Key} {d : D} : ∀ {ks : List (D × D)}, dGet (ks.map fun p => if kOf p.1 = some c then (p.1, d) else p) c' = if c = c' then (match dGet ks c' with | some _ => some d | none => none) else dGet ks c'
  | [] => by simp [dGet]
  | (k, x) :: ks => by
    have ih := dGet_repl (c := c) (c' := c') (d := d) (ks := ks)
    by_cases q : kOf k = some c
    · simp only [List.map_cons, if_pos q, dGet]
      by_cases q2 : c = c'
      · subst q2
        simp [q]
      · rw [if_neg (by rw [q]; exact fun z => q2 (Option.some.inj z)), if_neg q2, if_neg (by rw [q]; exact fun z => q2 (Option.some.inj z)), ih, if_neg q2]
    · simp only [List.map_cons, if_neg q, dGet]
      by_cases q2 : kOf k = some c'
      · rw [if_pos q2, if_pos q2]
        have : ¬ c = c' := fun z => q (z ▸ q2)
        rw [if_neg this]
      · rw [if_neg q2, if_neg q2, ih]
theorem dGet_put {ks : List (D × D)} {c c' : Key} {d : D} : dGet (dPut ks c d) c' = if c = c' then some d else dGet ks c' := by
  unfold dPut
  by_cases q : (dGet ks c).isSome = true
  · rw [if_pos q, dGet_repl]
    by_cases q2 : c = c'
    · subst q2
      rw [if_pos rfl, if_pos rfl]
      cases e : dGet ks c with
      | none => rw [e] at q; cases q
      | some x => rfl
    · rw [if_neg q2, if_neg q2]
  · rw [if_neg q, dGet_snoc]
    by_cases q2 : c = c'
    · subst q2
      cases e : dGet ks c with
      | none => simp
      | some x => rw [e] at q; exact absurd rfl q
    · cases e : dGet ks c' <;> simp [q2]
theorem dPut_len {ks : List (D × D)} {c : Key} {d : D} : (dPut ks c d).length ≤ ks.length + 1 := by
  unfold dPut
  split <;> simp
theorem merge_out {c : Key} : ∀ {cs : List Key} {ys : List D} {acc : List (D × D)}, c ∉ cs → dGet (mergeD acc (cs.zip ys)) c = dGet acc c
  | [], _, _, _ => rfl
  | a :: cs, [], _, _ => rfl
  | a :: cs, y :: ys, acc, h => by
    show dGet (mergeD (dPut acc a y) (cs.zip ys)) c = dGet acc c
    rw [merge_out (fun z => h (List.mem_cons_of_mem _ z)), dGet_put, if_neg (fun (z : a = c) => h (z ▸ List.mem_cons_self))]
theorem merge_get : ∀ {cs : List Key} {ys : List D} {acc : List (D × D)}, cs.Nodup → ∀ (i : Nat) (c : Key) (y : D), cs[i]? = some c → ys[i]? = some y → dGet (mergeD acc (cs.zip ys)) c = some y
  | [], _, _, _, i, c, y, h, _ => by simp at h
  | a :: cs, [], _, _, i, c, y, _, h => by simp at h
  | a :: cs, z :: ys, acc, nd, i, c, y, h1, h2 => by
    show dGet (mergeD (dPut acc a z) (cs.zip ys)) c = some y
    have nd' := List.nodup_cons.mp nd
    cases i with
    | zero =>
      cases h1; cases h2
      rw [merge_out nd'.1, dGet_put, if_pos rfl]
    | succ i => exact merge_get nd'.2 i c y h1 h2
/-! ### the in-steps -/
def insTo (w : List SD) : Nat → List Int
  | 0 => []
  | i + 1 => insTo w i ++ (if isIn (w.getD i (.none, [])) = true then [(i : Int)] else [])
theorem insTo_len {w : List SD} : ∀ i, i ≤ w.length → (insTo w i).length = inN w i
  | 0, _ => rfl
  | i + 1, h => by
    have ih := insTo_len (w := w) i (by omega)
    rw [inN_succ (by omega), insTo, List.length_append, ih, getD_at (by omega)]
    congr 1
    split <;> rfl
theorem insTo_lt {w : List SD} : ∀ (i : Nat) (a : Int), a ∈ insTo w i → 0 ≤ a ∧ a < i
  | 0, a, h => (nomatch h)
  | i + 1, a, h => by
    rcases List.mem_append.mp h with h | h
    · have := insTo_lt i a h
      omega
    · split at h
      · simp at h; omega
      · cases h
theorem insTo_nd {w : List SD} : ∀ i, (insTo w i).Nodup
  | 0 => .nil
  | i + 1 => by
    rw [insTo, List.nodup_append]
    refine ⟨insTo_nd i, by split <;> simp, fun x hx y hy e => ?_⟩
    have := insTo_lt i x hx
    split at hy
    · simp at hy; omega
    · cases hy
theorem insTo_get {w : List SD} {k : Nat} : ∀ i, k < i → i ≤ w.length → isIn (w.getD k (.none, [])) = true → (insTo w i)[inN w k]? = some (k : Int)
  | 0, h, _, _ => by omega
  | i + 1, h, hi, hk => by
    rw [insTo]
    by_cases q : k < i
    · have ih := insTo_get i q (by omega) hk
      rw [List.getElem?_append_left (List.getElem?_eq_some_iff.mp ih).1, ih]
    · obtain rfl : k = i := by omega
      rw [List.getElem?_append_right (by rw [insTo_len k (by omega)]; exact Nat.le_refl _), insTo_len k (by omega), if_pos hk]
      simp
theorem lay_ints : ∀ ns : List Int, PyData.canLayAll0 (ns.map PyData.int) = true ∧ PyData.depthAll (ns.map PyData.int) ≤ 1
  | [] => ⟨rfl, by simp [PyData.depthAll]⟩
  | n :: ns => by
    have := lay_ints ns
    simp [PyData.canLayAll0, PyData.canLay0, PyData.depthAll, PyData.depth, this.1, this.2]
theorem shaped_ints (ns : List Int) : SeqAt.shaped (.list (ns.map PyData.int)) = true := by
  have := lay_ints ns
  simp [SeqAt.shaped, PyData.canLay0, PyData.depth, this.1]
  omega
theorem shaped_tupI (ns : List Int) : SeqAt.shaped (tupI ns) = true := by
  have := lay_ints ns
  simp [SeqAt.shaped, PyData.canLay0, PyData.depth, this.1]
  omega
theorem eqv_lnil (ds : List D) : PyData.eqv (.list ds) (.list []) = ds.isEmpty := by
  cases ds <;> simp [PyData.eqv, PyData.eqvAll]
end PP

set_option Elab.async false
set_option linter.all false
set_option maxRecDepth 100000
set_option maxHeartbeats 2000000
namespace PP
open PySem PySem.Spec PyProof.Rows L2
/-! ### what hangs together -/
def adjB (w : List SD) (a b : Int) : Bool := (inpD w b).any (· == a) || (inpD w a).any (· == b)
theorem adj_symm {w : List SD} {a b : Int} (h : adjB w a b = true) : adjB w b a = true := by
  unfold adjB at h ⊢
  rw [Bool.or_comm]; exact h
inductive Cn (w : List SD) (S : List Int) : Int → Int → Prop
  | refl {a : Int} : a ∈ S → Cn w S a a
  | step {a b c : Int} : Cn w S a b → c ∈ S → adjB w b c = true → Cn w S a c
namespace Cn
variable {w : List SD} {S T : List Int} {a b c : Int}
theorem left (h : Cn w S a b) : a ∈ S := by
  induction h with
  | refl h => exact h
  | step _ _ _ ih => exact ih
theorem right (h : Cn w S a b) : b ∈ S := by
  cases h with
  | refl h => exact h
  | step _ h _ => exact h
theorem trans (h : Cn w S a b) (h2 : Cn w S b c) : Cn w S a c := by
  induction h2 with
  | refl _ => exact h
  | step _ h1 h2 ih => exact .step ih h1 h2
theorem symm (h : Cn w S a b) : Cn w S b a := by
  induction h with
  | refl h => exact .refl h
  | step h1 h2 h3 ih => exact (Cn.step (.refl h2) h1.right (adj_symm h3)).trans ih
theorem mono (f : ∀ x ∈ S, x ∈ T) (h : Cn w S a b) : Cn w T a b := by
  induction h with
  | refl h => exact .refl (f _ h)
  | step _ h2 h3 ih => exact .step ih (f _ h2) h3
/-- within a part of S that is closed -/
theorem within (hc : ∀ x ∈ T, ∀ y, Cn w S x y → y ∈ T) (ha : a ∈ T) (h : Cn w S a b) : Cn w T a b := by
  induction h with
  | refl h => exact .refl ha
  | step h1 h2 h3 ih => exact .step ih (hc _ ha _ (.step h1 h2 h3)) h3
end Cn
/-! ### classes -/
section
open Classical
variable {R : Int → Int → Prop}
noncomputable def isLst (R : Int → Int → Prop) (S : List Int) (h : Int) : Bool := decide (∀ y ∈ S, R h y → h ≤ y)
noncomputable def clsR (R : Int → Int → Prop) (S : List Int) : List (List Int) := (S.filter (isLst R S)).map fun h => S.filter fun x => decide (R h x)
theorem clsR_cons {h : Int} {t : List Int} (ha : (h :: t).Pairwise (· < ·)) (rf : ∀ x ∈ h :: t, R x x) (sy : ∀ x y, R x y → R y x) (tr : ∀ x y z, R x y → R y z → R x z) :
    clsR R (h :: t) = ((h :: t).filter fun x => decide (R h x)) :: clsR R ((h :: t).filter fun x => !decide (R h x)) := by
  have h1 := (List.pairwise_cons.mp ha).1
  have rh := rf h List.mem_cons_self
  have er : ((h :: t).filter fun x => !decide (R h x)) = t.filter fun x => !decide (R h x) := by
    rw [List.filter_cons_of_neg (by simp [rh])]
  unfold clsR
  have e1 : (h :: t).filter (isLst R (h :: t)) = h :: ((h :: t).filter fun x => !decide (R h x)).filter (isLst R ((h :: t).filter fun x => !decide (R h x))) := by
    rw [List.filter_cons_of_pos]
    · congr 1
      rw [er, List.filter_filter]
      apply List.filter_congr
      intro x hx
      have hlt := h1 x hx
      rw [Bool.eq_iff_iff, Bool.and_eq_true]
      unfold isLst
      simp only [decide_eq_true_eq, Bool.not_eq_true', decide_eq_false_iff_not, List.mem_filter]
      constructor
      · intro q
        have nr : ¬ R h x := fun z => by
          have := q h List.mem_cons_self (sy _ _ z)
          omega
        exact ⟨fun y hy r => q y (List.mem_cons_of_mem _ hy.1) r, nr⟩
      · rintro ⟨q, nr⟩ y hy r
        rcases List.mem_cons.mp hy with e | hy
        · subst e
          exact absurd (sy _ _ r) nr
        · exact q y ⟨hy, fun z => nr (tr _ _ _ z (sy _ _ r))⟩ r
    · unfold isLst
      rw [decide_eq_true_eq]
      intro y hy _
      rcases List.mem_cons.mp hy with e | hy
      · omega
      · have := h1 y hy
        omega
  rw [e1, List.map_cons]
  congr 1
  apply List.map_congr_left
  intro x hx
  have hx := List.mem_filter.mp (List.mem_filter.mp hx).1
  have nr : ¬ R h x := by simpa using hx.2
  rw [List.filter_filter]
  apply List.filter_congr
  intro y hy
  rw [Bool.eq_iff_iff, Bool.and_eq_true]
  simp only [decide_eq_true_eq, Bool.not_eq_true', decide_eq_false_iff_not]
  exact ⟨fun r => ⟨r, fun z => nr (tr _ _ _ z (sy _ _ r))⟩, fun r => r.1⟩
end
/-! ### rows of ties of a bounded length -/
def Pt (w : List SD) (S : List Int) (y : Int) : Nat → Int → Prop
  | 0, x => x = y ∧ x ∈ S
  | t + 1, x => Pt w S y t x ∨ ∃ z, Pt w S y t z ∧ x ∈ S ∧ adjB w z x = true
theorem Pt.mem {w : List SD} {S : List Int} {y : Int} : ∀ {t : Nat} {x : Int}, Pt w S y t x → x ∈ S
  | 0, x, h => h.2
  | t + 1, x, h => by
    rcases h with h | ⟨z, _, h, _⟩
    · exact Pt.mem h
    · exact h
theorem Pt.cn {w : List SD} {S : List Int} {y : Int} : ∀ {t : Nat} {x : Int}, Pt w S y t x → Cn w S y x
  | 0, x, h => by obtain ⟨rfl, h⟩ := h; exact .refl h
  | t + 1, x, h => by
    rcases h with h | ⟨z, h1, h2, h3⟩
    · exact Pt.cn h
    · exact .step (Pt.cn h1) h2 h3
theorem Pt.up {w : List SD} {S : List Int} {y x : Int} {t : Nat} : ∀ d, Pt w S y t x → Pt w S y (t + d) x
  | 0, h => h
  | d + 1, h => .inl (Pt.up d h)
theorem filter_le {α : Type} {p q : α → Bool} : ∀ {S : List α}, (∀ x ∈ S, p x = true → q x = true) → (S.filter p).length ≤ (S.filter q).length
  | [], _ => Nat.le_refl _
  | a :: S, h => by
    have ih := filter_le (S := S) fun x hx => h x (List.mem_cons_of_mem _ hx)
    have ha := h a List.mem_cons_self
    rw [List.filter_cons, List.filter_cons]
    cases hp : p a with
    | true => rw [ha hp]; simpa using ih
    | false => cases q a <;> simp <;> omega
theorem filter_lt {α : Type} {p q : α → Bool} : ∀ {S : List α}, (∀ x ∈ S, p x = true → q x = true) → (∃ x ∈ S, q x = true ∧ p x = false) → (S.filter p).length < (S.filter q).length
  | [], _, ⟨x, h, _⟩ => nomatch h
  | a :: S, hs, ⟨x, hx, h1, h2⟩ => by
    have le := filter_le (S := S) (p := p) (q := q) fun x hx => hs x (List.mem_cons_of_mem _ hx)
    rcases List.mem_cons.mp hx with e | hx
    · subst e
      rw [List.filter_cons_of_neg (by rw [h2]; decide), List.filter_cons_of_pos h1, List.length_cons]
      omega
    · have ih := filter_lt (S := S) (p := p) (q := q) (fun x hx => hs x (List.mem_cons_of_mem _ hx)) ⟨x, hx, h1, h2⟩
      have ha := hs a List.mem_cons_self
      rw [List.filter_cons, List.filter_cons]
      cases hp : p a with
      | true => rw [ha hp]; simpa using ih
      | false => cases q a <;> simp <;> omega
section
open Classical
/-- rows of at most as many ties as there are steps are enough -/
theorem Cn.pt {w : List SD} {S : List Int} {y x : Int} (h : Cn w S y x) : Pt w S y S.length x := by
  have ex : ∃ t, t ≤ S.length ∧ ∀ x, Pt w S y (t + 1) x → Pt w S y t x := by
    refine Classical.byContradiction fun no => ?_
    have no : ∀ t, t ≤ S.length → ∃ x, Pt w S y (t + 1) x ∧ ¬ Pt w S y t x := fun t ht => by
      refine Classical.byContradiction fun q => no ⟨t, ht, fun x hx => ?_⟩
      exact Classical.byContradiction fun nx => q ⟨x, hx, nx⟩
    have grow : ∀ t, t ≤ S.length + 1 → t ≤ (S.filter fun x => decide (Pt w S y t x)).length := by
      intro t
      induction t with
      | zero => intro _; omega
      | succ t ih =>
        intro ht
        have ih := ih (by omega)
        obtain ⟨x, h1, h2⟩ := no t (by omega)
        have := filter_lt (S := S) (p := fun x => decide (Pt w S y t x)) (q := fun x => decide (Pt w S y (t + 1) x)) (fun x _ hx => decide_eq_true (.inl (of_decide_eq_true hx))) ⟨x, h1.mem, decide_eq_true h1, decide_eq_false h2⟩
        omega
    have g := grow (S.length + 1) (Nat.le_refl _)
    have := List.length_filter_le (fun x => decide (Pt w S y (S.length + 1) x)) S
    omega
  obtain ⟨t, ht, hc⟩ := ex
  have key : Pt w S y t x := by
    induction h with
    | refl hs =>
      have : Pt w S y 0 y := ⟨rfl, hs⟩
      have := this.up t
      rwa [Nat.zero_add] at this
    | step _ h2 h3 ih => exact hc _ (.inr ⟨_, ih, h2, h3⟩)
  have := key.up (S.length - t)
  rwa [show t + (S.length - t) = S.length from by omega] at this
end
/-! ### ascending lists -/
theorem asc_filter {p : Int → Bool} {S : List Int} (h : S.Pairwise (· < ·)) : (S.filter p).Pairwise (· < ·) := h.sublist List.filter_sublist
theorem rowI_asc (n : Nat) : (rowI (List.range n)).Pairwise (· < ·) := by
  unfold rowI
  exact List.Pairwise.map _ (fun a b (h : a < b) => by omega) List.pairwise_lt_range
theorem srtI_lt {l : List Int} (h : l.Nodup) : (srtI l).Pairwise (· < ·) := by
  have h1 := srtI_asc l
  have h2 : (srtI l).Nodup := (srtI_perm l).nodup_iff.mpr h
  exact (h1.and h2).imp fun {a b} z => by have := z.1; have := z.2; omega
theorem asc_nodup {S : List Int} (h : S.Pairwise (· < ·)) : S.Nodup := h.imp fun {a b} z => by omega
theorem S_inp {n : Nat} {w : List SD} (hw : Wb n w) {a b : Int} (hb : 0 ≤ b ∧ b < w.length) (h : a ∈ inpD w b) : 0 ≤ a ∧ a < w.length := by
  obtain ⟨b, rfl, hl⟩ := nat_ix hb.1 hb.2
  unfold inpD at h
  rw [Int.toNat_natCast, getD_at hl] at h
  exact (hw.2.2.1 w[b] (List.getElem_mem hl)).2.2 a h
end PP

set_option Elab.async false
set_option linter.all false
set_option maxRecDepth 100000
set_option maxHeartbeats 2000000
namespace PP
open PySem PySem.Spec PyProof.Rows L2
def stepsI (w : List SD) : List Int := rowI (List.range w.length)
noncomputable def partsL (w : List SD) : List (List Int) := clsR (Cn w (stepsI w)) (stepsI w)
structure InS (w : List SD) (S : List Int) : Prop where
  asc : S.Pairwise (· < ·)
  bd : ∀ x ∈ S, 0 ≤ x ∧ x < w.length
theorem InS.len {w : List SD} {S : List Int} (h : InS w S) : S.length ≤ w.length := pig _ _ (asc_nodup h.asc) h.bd
theorem InS.all (w : List SD) : InS w (stepsI w) := ⟨rowI_asc _, fun x hx => by
  obtain ⟨b, rfl, hb⟩ := mem_rowI.mp hx
  omega⟩
def kTied : KF := fun ds Q => ∃ (w : List SD) (a b : Int), ds = [webD w, .int a, .int b] ∧ Wb 100 w ∧ (0 ≤ a ∧ a < w.length) ∧ (0 ≤ b ∧ b < w.length) ∧ Q (.bool (adjB w a b))
theorem kTied_mono : MonoC kTied := fun ds Q Q' f ⟨w, a, b, h1, h2, h3, h4, q⟩ => ⟨w, a, b, h1, h2, h3, h4, f _ q⟩
def kReached : KF := fun ds Q => ∃ (w : List SD) (S : List Int) (h : Int), ds = [webD w, .int h, tupI S] ∧ Wb 100 w ∧ InS w S ∧ h ∈ S ∧ ∀ L : List Int, L.Pairwise (· < ·) → (∀ x, x ∈ L ↔ Cn w S h x) → Q (tupI L)
theorem kReached_mono : MonoC kReached := fun ds Q Q' f ⟨w, S, h, h1, h2, h3, h4, q⟩ => ⟨w, S, h, h1, h2, h3, h4, fun L a b => f _ (q L a b)⟩
def kPieces : KF := fun ds Q => ∃ (w : List SD) (S : List Int), ds = [webD w, tupI S] ∧ Wb 100 w ∧ InS w S ∧ Q (.list ((clsR (Cn w S) S).map tupI))
theorem kPieces_mono : MonoC kPieces := fun ds Q Q' f ⟨w, S, h1, h2, h3, q⟩ => ⟨w, S, h1, h2, h3, f _ q⟩
def kParts : KF := fun ds Q => ∃ w : List SD, ds = [webD w] ∧ Wb 100 w ∧ Q (.tuple ((partsL w).map tupI))
theorem kParts_mono : MonoC kParts := fun ds Q Q' f ⟨w, h1, h2, q⟩ => ⟨w, h1, h2, f _ q⟩
def kPairs : KF := fun ds Q => ∃ w : List SD, ds = [webD w] ∧ Wb 10 w ∧ ∀ ms : List (List Int), ms.length < 64 → (∀ n ∈ ms, ∃ a b : Int, n = [a, b] ∧ (0 ≤ b ∧ b < w.length) ∧ a ∈ inpD w b) → (∀ a b : Int, 0 ≤ b → b < w.length → a ∈ inpD w b → [a, b] ∈ ms) → Q (.list (ms.map rowD))
theorem kPairs_mono : MonoC kPairs := fun ds Q Q' f ⟨w, h1, h2, q⟩ => ⟨w, h1, h2, fun ms a b c => f _ (q ms a b c)⟩
def kLParts : KF := fun ds Q => ∃ w : List SD, ds = [webD w] ∧ Wb 10 w ∧ Q (.tuple ((partsL w).map tupI))
theorem kLParts_mono : MonoC kLParts := fun ds Q Q' f ⟨w, h1, h2, q⟩ => ⟨w, h1, h2, f _ q⟩
theorem eqv_ii (i j : Int) : PyData.eqv (.int i) (.int j) = (i == j) := by
  simp [PyData.eqv]
theorem any_eq {l : List Int} {a : Int} : (l.any (· == a)) = decide (a ∈ l) := by
  rw [Bool.eq_iff_iff, any_is, decide_eq_true_eq]
/-! ### the law's own joining -/
structure Own (w : List SD) (t : Nat) (ow : List Int) : Prop where
  ln : ow.length = w.length
  cn : ∀ x : Nat, x < w.length → Cn w (stepsI w) x (ow.getD x 0)
  le : ∀ (x : Nat) (y : Int), x < w.length → Pt w (stepsI w) y t x → ow.getD x 0 ≤ y
def Don (w : List SD) (t : Nat) (done : List (List Int)) (ow : List Int) : Prop := ∀ a b : Nat, [(a : Int), (b : Int)] ∈ done → ∀ y, (Pt w (stepsI w) y t a → ow.getD b 0 ≤ y) ∧ (Pt w (stepsI w) y t b → ow.getD a 0 ≤ y)
theorem step_mem {w : List SD} {b : Nat} (h : b < w.length) : (b : Int) ∈ stepsI w := mem_rowI.mpr ⟨b, rfl, h⟩
theorem own0 (w : List SD) : Own w 0 (stepsI w) := by
  have g : ∀ x : Nat, x < w.length → (stepsI w).getD x 0 = (x : Int) := fun x hx => by
    rw [List.getD_eq_getElem?_getD]
    unfold stepsI rowI
    rw [List.getElem?_map, List.getElem?_range hx]
    rfl
  refine ⟨by simp [stepsI, rowI], fun x hx => ?_, fun x y hx h => ?_⟩
  · rw [g x hx]; exact .refl (step_mem hx)
  · rw [g x hx]
    have := h.1
    omega
theorem set2_getD {ow : List Int} {a b x : Nat} {m : Int} (ha : a < ow.length) (hb : b < ow.length) : ((ow.set a m).set b m).getD x 0 = if x = a ∨ x = b then m else ow.getD x 0 := by
  rw [List.getD_eq_getElem?_getD, List.getD_eq_getElem?_getD, List.getElem?_set, List.getElem?_set]
  by_cases e1 : b = x
  · subst e1
    simp [hb]
  · by_cases e2 : a = x
    · subst e2
      simp [e1, ha]
    · have : ¬ (x = a ∨ x = b) := by omega
      simp [e1, e2, this]
theorem Own.put {w : List SD} {t : Nat} {ow : List Int} {done : List (List Int)} (h : Own w t ow) (hd : Don w t done ow) {a b : Nat} (ha : a < w.length) (hb : b < w.length) (hab : adjB w a b = true) {m : Int} (hm : m = if ow.getD b 0 < ow.getD a 0 then ow.getD b 0 else ow.getD a 0) :
    Own w t ((ow.set a m).set b m) ∧ Don w t (done ++ [[(a : Int), (b : Int)]]) ((ow.set a m).set b m) := by
  have la : a < ow.length := by rw [h.ln]; exact ha
  have lb : b < ow.length := by rw [h.ln]; exact hb
  have g := fun x => set2_getD (ow := ow) (a := a) (b := b) (x := x) (m := m) la lb
  have m1 : m ≤ ow.getD a 0 := by subst hm; split <;> omega
  have m2 : m ≤ ow.getD b 0 := by subst hm; split <;> omega
  have le : ∀ x, ((ow.set a m).set b m).getD x 0 ≤ ow.getD x 0 := fun x => by
    rw [g]
    split
    · rename_i q
      rcases q with q | q <;> subst q <;> assumption
    · exact Int.le_refl _
  have cab : Cn w (stepsI w) a b := .step (.refl (step_mem ha)) (step_mem hb) hab
  have cm : Cn w (stepsI w) a m := by
    subst hm
    split
    · exact cab.trans (h.cn b hb)
    · exact h.cn a ha
  refine ⟨⟨by simp [h.ln], fun x hx => ?_, fun x y hx hp => Int.le_trans (le x) (h.le x y hx hp)⟩, fun c d hcd y => ?_⟩
  · rw [g]
    split
    · rename_i q
      rcases q with q | q
      · subst q; exact cm
      · subst q; exact cab.symm.trans cm
    · exact h.cn x hx
  · rcases List.mem_append.mp hcd with q | q
    · exact ⟨fun p => Int.le_trans (le d) ((hd c d q y).1 p), fun p => Int.le_trans (le c) ((hd c d q y).2 p)⟩
    · have q : [(c : Int), (d : Int)] = [(a : Int), (b : Int)] := by simpa using q
      have e1 : c = a := by have := (List.cons.inj q).1; omega
      have e2 : d = b := by have := (List.cons.inj (List.cons.inj q).2).1; omega
      subst e1 e2
      refine ⟨fun p => ?_, fun p => ?_⟩
      · rw [g, if_pos (.inr rfl)]
        exact Int.le_trans m1 (h.le c y ha p)
      · rw [g, if_pos (.inl rfl)]
        exact Int.le_trans m2 (h.le d y hb p)
theorem Own.next {w : List SD} {t : Nat} {ow : List Int} {ms : List (List Int)} (hS : ∀ a b : Int, 0 ≤ b → b < w.length → a ∈ inpD w b → [a, b] ∈ ms) (h : Own w t ow) (hd : Don w t ms ow) : Own w (t + 1) ow := by
  refine ⟨h.ln, h.cn, fun x y hx hp => ?_⟩
  rcases hp with hp | ⟨z, hz, _, adj⟩
  · exact h.le x y hx hp
  · obtain ⟨z, rfl, hzl⟩ := mem_rowI.mp hz.mem
    unfold adjB at adj
    rw [Bool.or_eq_true, any_is, any_is] at adj
    rcases adj with adj | adj
    · exact (hd z x (hS _ _ (by omega) (by omega) adj) y).1 hz
    · exact (hd x z (hS _ _ (by omega) (by omega) adj) y).2 hz
theorem steps_len (w : List SD) : (stepsI w).length = w.length := by simp [stepsI, rowI]
/-- at the end -/
theorem Own.fin {w : List SD} {ow : List Int} (h : Own w w.length ow) : ∀ (x : Nat) (y : Int), x < w.length → Cn w (stepsI w) y x → ow.getD x 0 ≤ y := fun x y hx hc => by
  have := hc.pt
  rw [steps_len] at this
  exact h.le x y hx this
open Classical in
theorem Own.least {w : List SD} {ow : List Int} (h : Own w w.length ow) : setI ow = (stepsI w).filter (isLst (Cn w (stepsI w)) (stepsI w)) := by
  refine uniq_lt setI_asc (asc_filter (rowI_asc _)) fun k => ?_
  rw [mem_setI, List.mem_filter]
  unfold isLst
  rw [decide_eq_true_eq]
  constructor
  · intro hk
    obtain ⟨x, hx, e⟩ := List.mem_iff_getElem.mp hk
    have hx2 : x < w.length := by rw [← h.ln]; exact hx
    have e2 : ow.getD x 0 = k := by rw [getD_at hx, e]
    have c := h.cn x hx2
    rw [e2] at c
    refine ⟨c.right, fun y _ hy => ?_⟩
    have := h.fin x y hx2 (c.trans hy).symm
    rw [e2] at this
    exact this
  · rintro ⟨hk, hl⟩
    obtain ⟨x, rfl, hx⟩ := mem_rowI.mp hk
    have c := h.cn x hx
    have h1 := hl _ c.right c
    have h2 := h.fin x x hx (.refl hk)
    have e : ow.getD x 0 = (x : Int) := by omega
    have lx : x < ow.length := by rw [h.ln]; exact hx
    rw [getD_at lx] at e
    exact List.mem_iff_getElem.mpr ⟨x, lx, e⟩
open Classical in
theorem Own.cls {w : List SD} {ow : List Int} (h : Own w w.length ow) {f : Int} (hf : f ∈ setI ow) : ((stepsI w).filter fun x => ow.getD x.toNat 0 == f) = (stepsI w).filter fun x => decide (Cn w (stepsI w) f x) := by
  rw [h.least] at hf
  obtain ⟨h1, h2⟩ := List.mem_filter.mp hf
  unfold isLst at h2
  have h2 := of_decide_eq_true h2
  apply List.filter_congr
  intro x hx
  obtain ⟨x, rfl, hl⟩ := mem_rowI.mp hx
  rw [Int.toNat_natCast, Bool.eq_iff_iff, decide_eq_true_eq, beq_iff_eq]
  have c := h.cn x hl
  constructor
  · intro e
    rw [e] at c
    exact c.symm
  · intro r
    have a1 := h2 _ c.right (r.trans c)
    have a2 := h.fin x f hl r
    omega
theorem Own.eq {w : List SD} {ow : List Int} (h : Own w w.length ow) : (setI ow).map (fun f => (stepsI w).filter fun x => ow.getD x.toNat 0 == f) = partsL w := by
  unfold partsL clsR
  rw [← h.least]
  apply List.map_congr_left
  intro f hf
  exact h.cls hf
end PP

set_option Elab.async false
set_option linter.all false
set_option maxRecDepth 100000
set_option maxHeartbeats 2000000
namespace PP
open PySem PySem.Spec PyProof.Rows L2
/-! ### the steps that are tied to a step -/
structure NearOk (w : List SD) (L : List (List Int)) : Prop where
  len : L.length = w.length
  nd : ∀ (i : Nat) (l : List Int), L[i]? = some l → l.Nodup
  mem : ∀ (i : Nat) (l : List Int), L[i]? = some l → ∀ k : Int, k ∈ l ↔ k ∈ stepsI w ∧ adjB w i k = true
def kNear : KF := fun ds Q => ∃ w : List SD, ds = [webD w] ∧ Wb 100 w ∧ ∀ L, NearOk w L → Q (.list (L.map lstI))
theorem kNear_mono : MonoC kNear := fun ds Q Q' f ⟨w, h1, h2, q⟩ => ⟨w, h1, h2, fun L h => f _ (q L h)⟩
/-- tied, as far as was looked -/
def PT (w : List SD) (t p a b : Nat) : Prop := (b < t ∧ Tie w a b) ∨ (b = t ∧ ∃ s, w[t]? = some s ∧ (a : Int) ∈ s.2.take p)
structure NP (w : List SD) (t p : Nat) (L : List (List Int)) : Prop where
  len : L.length = w.length
  nd : ∀ (i : Nat) (l : List Int), L[i]? = some l → l.Nodup
  mem : ∀ (i : Nat) (l : List Int), L[i]? = some l → ∀ k : Int, k ∈ l ↔ ∃ b : Nat, k = (b : Int) ∧ (PT w t p b i ∨ PT w t p i b)
theorem PT.zero {w : List SD} {a b : Nat} : ¬ PT w 0 0 a b := by
  rintro (⟨h, _⟩ | ⟨_, s, _, h⟩)
  · omega
  · simp at h
theorem PT.succ {w : List SD} {t p j a b : Nat} {s : SD} (hs : w[t]? = some s) (hp : s.2[p]? = some (j : Int)) : PT w t (p + 1) a b ↔ PT w t p a b ∨ (b = t ∧ a = j) := by
  have e : s.2.take (p + 1) = s.2.take p ++ [(j : Int)] := by rw [List.take_add_one, hp]; rfl
  unfold PT
  constructor
  · rintro (h | ⟨h1, s', h2, h3⟩)
    · exact .inl (.inl h)
    · rw [hs] at h2; cases h2
      rw [e] at h3
      rcases List.mem_append.mp h3 with h3 | h3
      · exact .inl (.inr ⟨h1, s, hs, h3⟩)
      · have : a = j := by have := List.mem_singleton.mp h3; omega
        exact .inr ⟨h1, this⟩
  · rintro ((h | ⟨h1, s', h2, h3⟩) | ⟨h1, h2⟩)
    · exact .inl h
    · rw [hs] at h2; cases h2
      exact .inr ⟨h1, s, hs, by rw [e]; exact List.mem_append_left _ h3⟩
    · exact .inr ⟨h1, s, hs, by rw [e, h2]; simp⟩
theorem PT.full {w : List SD} {t a b : Nat} {s : SD} (hs : w[t]? = some s) : PT w t s.2.length a b ↔ PT w (t + 1) 0 a b := by
  unfold PT
  constructor
  · rintro (⟨h1, h2⟩ | ⟨h1, s', h2, h3⟩)
    · exact .inl ⟨by omega, h2⟩
    · subst h1
      rw [hs] at h2; cases h2
      rw [List.take_of_length_le (Nat.le_refl _)] at h3
      exact .inl ⟨by omega, s, hs, h3⟩
  · rintro (⟨h1, h2⟩ | ⟨_, s', _, h3⟩)
    · by_cases c : b < t
      · exact .inl ⟨c, h2⟩
      · have : b = t := by omega
        subst this
        obtain ⟨s', h2, h3⟩ := h2
        rw [hs] at h2; cases h2
        exact .inr ⟨rfl, s, hs, by rw [List.take_of_length_le (Nat.le_refl _)]; exact h3⟩
    · simp at h3
theorem NP.begin (w : List SD) : NP w 0 0 ((List.range w.length).map fun _ => []) := by
  have at_ : ∀ (i : Nat) (l : List Int), ((List.range w.length).map fun _ => ([] : List Int))[i]? = some l → l = [] := fun i l h => by
    rw [List.getElem?_map] at h
    cases q : (List.range w.length)[i]? with
    | none => rw [q] at h; cases h
    | some _ => rw [q] at h; cases h; rfl
  refine ⟨by simp, fun i l h => by rw [at_ i l h]; exact .nil, fun i l h k => ?_⟩
  rw [at_ i l h]
  constructor
  · intro z; cases z
  · rintro ⟨b, _, z | z⟩
    · exact absurd z PT.zero
    · exact absurd z PT.zero
theorem NP.full {w : List SD} {t : Nat} {s : SD} {L : List (List Int)} (hs : w[t]? = some s) (h : NP w t s.2.length L) : NP w (t + 1) 0 L :=
  ⟨h.len, h.nd, fun i l hl k => by
    rw [h.mem i l hl k]
    constructor
    · rintro ⟨b, e, z⟩; exact ⟨b, e, z.imp (PT.full hs).mp (PT.full hs).mp⟩
    · rintro ⟨b, e, z⟩; exact ⟨b, e, z.imp (PT.full hs).mpr (PT.full hs).mpr⟩⟩
theorem NP.skip {w : List SD} {t p j : Nat} {s : SD} {L : List (List Int)} (hs : w[t]? = some s) (hp : s.2[p]? = some (j : Int)) (h : NP w t p L) {lt : List Int} (ht : L[t]? = some lt) (m : (j : Int) ∈ lt) : NP w t (p + 1) L := by
  obtain ⟨b, e, z⟩ := (h.mem t lt ht j).mp m
  have : b = j := by omega
  subst this
  refine ⟨h.len, h.nd, fun i l hl k => ?_⟩
  rw [h.mem i l hl k]
  constructor
  · rintro ⟨c, e, q⟩
    exact ⟨c, e, q.imp (fun q => (PT.succ hs hp).mpr (.inl q)) fun q => (PT.succ hs hp).mpr (.inl q)⟩
  · rintro ⟨c, e, q⟩
    refine ⟨c, e, ?_⟩
    rcases q with q | q
    · rcases (PT.succ hs hp).mp q with q | ⟨rfl, rfl⟩
      · exact .inl q
      · exact z
    · rcases (PT.succ hs hp).mp q with q | ⟨rfl, rfl⟩
      · exact .inr q
      · exact z.symm
theorem NP.add {w : List SD} {t p j : Nat} {s : SD} {L : List (List Int)} (hs : w[t]? = some s) (hp : s.2[p]? = some (j : Int)) (hj : j ≠ t) (h : NP w t p L) {lt lj : List Int} (ht : L[t]? = some lt) (hl : L[j]? = some lj) (m : (j : Int) ∉ lt) :
    NP w t (p + 1) ((L.set t (lt ++ [(j : Int)])).set j (lj ++ [(t : Int)])) := by
  have m2 : (t : Int) ∉ lj := fun z => m ((h.mem t lt ht j).mpr (by
    obtain ⟨b, e, q⟩ := (h.mem j lj hl t).mp z
    have : b = t := by omega
    subst this
    exact ⟨j, rfl, q.symm⟩))
  have tl : t < L.length := (List.getElem?_eq_some_iff.mp ht).1
  have jl : j < L.length := (List.getElem?_eq_some_iff.mp hl).1
  have at_ : ∀ (i : Nat) (l : List Int), ((L.set t (lt ++ [(j : Int)])).set j (lj ++ [(t : Int)]))[i]? = some l → (i = j ∧ l = lj ++ [(t : Int)]) ∨ (i = t ∧ l = lt ++ [(j : Int)]) ∨ (i ≠ j ∧ i ≠ t ∧ L[i]? = some l) := by
    intro i l q
    rw [List.getElem?_set, List.getElem?_set] at q
    by_cases c1 : j = i
    · subst c1
      rw [if_pos rfl, if_pos (by simpa using jl)] at q
      cases q
      exact .inl ⟨rfl, rfl⟩
    · rw [if_neg c1] at q
      by_cases c2 : t = i
      · subst c2
        rw [if_pos rfl, if_pos tl] at q
        cases q
        exact .inr (.inl ⟨rfl, rfl⟩)
      · rw [if_neg c2] at q
        exact .inr (.inr ⟨Ne.symm c1, Ne.symm c2, q⟩)
  have snoc : ∀ (l : List Int) (k : Int), l.Nodup → k ∉ l → (l ++ [k]).Nodup := fun l k h1 h2 => by
    rw [List.nodup_append]
    exact ⟨h1, by simp, fun a ha b hb e => h2 (by have := List.mem_singleton.mp hb; rw [← this, ← e]; exact ha)⟩
  refine ⟨by simp [h.len], fun i l q => ?_, fun i l q k => ?_⟩
  · rcases at_ i l q with ⟨_, rfl⟩ | ⟨_, rfl⟩ | ⟨_, _, q⟩
    · exact snoc _ _ (h.nd _ _ hl) m2
    · exact snoc _ _ (h.nd _ _ ht) m
    · exact h.nd i l q
  · rcases at_ i l q with ⟨rfl, rfl⟩ | ⟨rfl, rfl⟩ | ⟨n1, n2, q⟩
    · rw [List.mem_append, h.mem _ _ hl k]
      constructor
      · rintro (⟨b, e, z⟩ | z)
        · exact ⟨b, e, z.imp (fun q => (PT.succ hs hp).mpr (.inl q)) fun q => (PT.succ hs hp).mpr (.inl q)⟩
        · have z := List.mem_singleton.mp z
          exact ⟨t, z, .inr ((PT.succ hs hp).mpr (.inr ⟨rfl, rfl⟩))⟩
      · rintro ⟨b, e, z⟩
        rcases z with z | z
        · rcases (PT.succ hs hp).mp z with z | ⟨z, _⟩
          · exact .inl ⟨b, e, .inl z⟩
          · exact absurd z hj
        · rcases (PT.succ hs hp).mp z with z | ⟨z, _⟩
          · exact .inl ⟨b, e, .inr z⟩
          · exact .inr (by rw [e, z]; simp)
    · rw [List.mem_append, h.mem _ _ ht k]
      constructor
      · rintro (⟨b, e, z⟩ | z)
        · exact ⟨b, e, z.imp (fun q => (PT.succ hs hp).mpr (.inl q)) fun q => (PT.succ hs hp).mpr (.inl q)⟩
        · have z := List.mem_singleton.mp z
          exact ⟨j, z, .inl ((PT.succ hs hp).mpr (.inr ⟨rfl, rfl⟩))⟩
      · rintro ⟨b, e, z⟩
        rcases z with z | z
        · rcases (PT.succ hs hp).mp z with z | ⟨_, z⟩
          · exact .inl ⟨b, e, .inl z⟩
          · exact .inr (by rw [e, z]; simp)
        · rcases (PT.succ hs hp).mp z with z | ⟨_, z⟩
          · exact .inl ⟨b, e, .inr z⟩
          · exact absurd z.symm hj
    · rw [h.mem i l q k]
      constructor
      · rintro ⟨b, e, z⟩
        exact ⟨b, e, z.imp (fun q => (PT.succ hs hp).mpr (.inl q)) fun q => (PT.succ hs hp).mpr (.inl q)⟩
      · rintro ⟨b, e, z⟩
        rcases z with z | z
        · rcases (PT.succ hs hp).mp z with z | ⟨z, _⟩
          · exact ⟨b, e, .inl z⟩
          · exact absurd z n2
        · rcases (PT.succ hs hp).mp z with z | ⟨_, z⟩
          · exact ⟨b, e, .inr z⟩
          · exact absurd z n1
theorem NP.fin {w : List SD} {L : List (List Int)} (hw : Wb 100 w) (h : NP w w.length 0 L) : NearOk w L := by
  have pt : ∀ a b, PT w w.length 0 a b ↔ Tie w a b := fun a b => by
    unfold PT
    constructor
    · rintro (⟨_, h⟩ | ⟨_, s, _, h⟩)
      · exact h
      · simp at h
    · intro h
      exact .inl ⟨(h.lt hw).2, h⟩
  have inp : ∀ a b : Nat, Tie w a b ↔ b < w.length ∧ (a : Int) ∈ inpD w (b : Int) := fun a b => by
    unfold Tie inpD
    rw [Int.toNat_natCast]
    constructor
    · rintro ⟨s, h1, h2⟩
      obtain ⟨lb, e⟩ := List.getElem?_eq_some_iff.mp h1
      exact ⟨lb, by rw [getD_at lb, e]; exact h2⟩
    · rintro ⟨lb, h2⟩
      rw [getD_at lb] at h2
      exact ⟨w[b], List.getElem?_eq_getElem lb, h2⟩
  refine ⟨h.len, h.nd, fun i l hl k => ?_⟩
  have il : i < w.length := by rw [← h.len]; exact (List.getElem?_eq_some_iff.mp hl).1
  rw [h.mem i l hl k]
  constructor
  · rintro ⟨b, rfl, z⟩
    rw [pt, pt] at z
    have lb : b < w.length := by
      rcases z with z | z
      · exact (z.lt hw).1
      · exact (z.lt hw).2
    refine ⟨step_mem lb, ?_⟩
    unfold adjB
    rw [Bool.or_eq_true, any_is, any_is]
    rcases z with z | z
    · exact .inr ((inp _ _).mp z).2
    · exact .inl ((inp _ _).mp z).2
  · rintro ⟨hk, ha⟩
    obtain ⟨b, rfl, lb⟩ := mem_rowI.mp hk
    refine ⟨b, rfl, ?_⟩
    rw [pt, pt]
    unfold adjB at ha
    rw [Bool.or_eq_true, any_is, any_is] at ha
    rcases ha with z | z
    · exact .inr ((inp _ _).mpr ⟨lb, z⟩)
    · exact .inl ((inp _ _).mpr ⟨il, z⟩)

/-! ### what is reached -/
def openS (w : List SD) (B : List Int) (h : Int) : List Int := h :: (stepsI w).filter fun x => !(B.any (· == x))
def kReach : KF := fun ds Q => ∃ (w : List SD) (L : List (List Int)) (h : Int) (B : List Int) (Bd : D), ds = [.list (L.map lstI), .int h, Bd] ∧ Wb 100 w ∧ NearOk w L ∧ h ∈ stepsI w ∧ (Bd = .list (B.map PyData.int) ∨ Bd = .tuple (B.map PyData.int)) ∧ B.length ≤ 1000 ∧
  ∀ fo : List Int, fo.Nodup → (∀ x, x ∈ fo ↔ Cn w (openS w B h) h x) → Q (.list (fo.map PyData.int))
theorem kReach_mono : MonoC kReach := fun ds Q Q' f ⟨w, L, h, B, Bd, h1, h2, h3, h4, h5, h6, q⟩ => ⟨w, L, h, B, Bd, h1, h2, h3, h4, h5, h6, fun fo a b => f _ (q fo a b)⟩
theorem openS_sub {w : List SD} {B : List Int} {h : Int} (hh : h ∈ stepsI w) : ∀ x ∈ openS w B h, x ∈ stepsI w := fun x hx => by
  rcases List.mem_cons.mp hx with e | hx
  · rw [e]; exact hh
  · exact (List.mem_filter.mp hx).1
theorem open_nil {w : List SD} {h x : Int} (hh : h ∈ stepsI w) : Cn w (openS w [] h) h x ↔ Cn w (stepsI w) h x :=
  ⟨fun q => q.mono (openS_sub hh), fun q => q.mono fun y hy => List.mem_cons_of_mem _ (List.mem_filter.mpr ⟨hy, rfl⟩)⟩
/-! ### the parts, one after another -/
open Classical in
noncomputable def partsTo (w : List SD) (t : Nat) : List (List Int) := (((stepsI w).take t).filter (isLst (Cn w (stepsI w)) (stepsI w))).map fun h => (stepsI w).filter fun x => decide (Cn w (stepsI w) h x)
theorem partsTo_all (w : List SD) : partsTo w w.length = partsL w := by
  unfold partsTo partsL clsR
  rw [List.take_of_length_le (by rw [steps_len]; exact Nat.le_refl _)]
open Classical in
theorem partsTo_succ {w : List SD} {t : Nat} (h : t < w.length) : partsTo w (t + 1) = partsTo w t ++ (if isLst (Cn w (stepsI w)) (stepsI w) (t : Int) = true then [(stepsI w).filter fun x => decide (Cn w (stepsI w) (t : Int) x)] else []) := by
  unfold partsTo
  have e : (stepsI w)[t]? = some (t : Int) := by
    unfold stepsI rowI
    rw [List.getElem?_map, List.getElem?_range h]; rfl
  rw [List.take_add_one, e, List.filter_append, List.map_append]
  congr 1
  simp only [Option.toList_some, List.filter_cons, List.filter_nil]
  split <;> rfl
end PP

set_option Elab.async false
set_option linter.all false
set_option maxRecDepth 100000
set_option maxHeartbeats 2000000
namespace PP
open PySem PySem.Spec PyProof.Rows L2
/-! ### firm sets -/
def Hang (w : List SD) (T : List Int) : Prop := ∀ x ∈ T, ∀ y ∈ T, Cn w T x y
def outL (T : List Int) (v : Int) : List Int := T.filter fun x => !(x == v)
structure Firm (w : List SD) (T : List Int) : Prop where
  two : 2 ≤ T.length
  hang : Hang w T
  out : ∀ v ∈ T, Hang w (outL T v)
structure MaxF (w : List SD) (S T : List Int) : Prop where
  asc : T.Pairwise (· < ·)
  sub : ∀ x ∈ T, x ∈ S
  firm : Firm w T
  max : ∀ U : List Int, U.Pairwise (· < ·) → (∀ x ∈ U, x ∈ S) → Firm w U → (∀ x ∈ T, x ∈ U) → U = T
theorem mem_out {T : List Int} {v x : Int} : x ∈ outL T v ↔ x ∈ T ∧ x ≠ v := by
  unfold outL
  rw [List.mem_filter]
  simp
theorem out_asc {T : List Int} {v : Int} (h : T.Pairwise (· < ·)) : (outL T v).Pairwise (· < ·) := asc_filter h
theorem out_self {T : List Int} {v : Int} (h : v ∉ T) : outL T v = T := by
  unfold outL
  rw [List.filter_eq_self]
  intro x hx
  have : x ≠ v := fun e => h (e ▸ hx)
  simpa using this
theorem Firm.outs {w : List SD} {T : List Int} (h : Firm w T) (v : Int) : Hang w (outL T v) := by
  by_cases q : v ∈ T
  · exact h.out v q
  · rw [out_self q]; exact h.hang
/-- two steps at least: one that is not v -/
theorem Firm.other {w : List SD} {T : List Int} (h : Firm w T) (a : T.Pairwise (· < ·)) (v : Int) : ∃ y ∈ T, y ≠ v := by
  have := h.two
  match T, a, this with
  | x :: y :: t, a, _ =>
    have l := (List.pairwise_cons.mp a).1 y List.mem_cons_self
    by_cases q : x = v
    · exact ⟨y, by simp, by omega⟩
    · exact ⟨x, by simp, q⟩
section
variable {R : Int → Int → Prop} {S : List Int}
open Classical
theorem cls_sub {P : List Int} (h : P ∈ clsR R S) : ∀ x ∈ P, x ∈ S := by
  unfold clsR at h
  obtain ⟨a, _, rfl⟩ := List.mem_map.mp h
  exact fun x hx => (List.mem_filter.mp hx).1
theorem cls_asc {P : List Int} (a : S.Pairwise (· < ·)) (h : P ∈ clsR R S) : P.Pairwise (· < ·) := by
  unfold clsR at h
  obtain ⟨_, _, rfl⟩ := List.mem_map.mp h
  exact asc_filter a
/-- a class holds just what hangs on any one of it -/
theorem cls_iff (sy : ∀ x y, R x y → R y x) (tr : ∀ x y z, R x y → R y z → R x z) {P : List Int} (h : P ∈ clsR R S) {x : Int} (hx : x ∈ P) (y : Int) : y ∈ P ↔ y ∈ S ∧ R x y := by
  unfold clsR at h
  obtain ⟨a, _, rfl⟩ := List.mem_map.mp h
  have hx := of_decide_eq_true (List.mem_filter.mp hx).2
  rw [List.mem_filter, decide_eq_true_eq]
  exact ⟨fun z => ⟨z.1, tr _ _ _ (sy _ _ hx) z.2⟩, fun z => ⟨z.1, tr _ _ _ hx z.2⟩⟩
theorem cls_eq (sy : ∀ x y, R x y → R y x) (tr : ∀ x y z, R x y → R y z → R x z) (a : S.Pairwise (· < ·)) {P P' : List Int} (h : P ∈ clsR R S) (h' : P' ∈ clsR R S) {x : Int} (hx : x ∈ P) (hx' : x ∈ P') : P = P' :=
  uniq_lt (cls_asc a h) (cls_asc a h') fun y => by rw [cls_iff sy tr h hx, cls_iff sy tr h' hx']
/-- an ascending list has a least one with a property -/
theorem asc_least {q : Int → Prop} : ∀ {S : List Int}, S.Pairwise (· < ·) → (∃ x ∈ S, q x) → ∃ h ∈ S, q h ∧ ∀ y ∈ S, q y → h ≤ y
  | [], _, ⟨x, h, _⟩ => nomatch h
  | a :: S, hp, ⟨x, hx, qx⟩ => by
    have hp' := List.pairwise_cons.mp hp
    by_cases qa : q a
    · refine ⟨a, by simp, qa, fun y hy _ => ?_⟩
      rcases List.mem_cons.mp hy with e | hy
      · omega
      · have := hp'.1 y hy
        omega
    · have : x ∈ S := by
        rcases List.mem_cons.mp hx with e | hx
        · exact absurd (e ▸ qx) qa
        · exact hx
      obtain ⟨h, h1, h2, h3⟩ := asc_least hp'.2 ⟨x, this, qx⟩
      refine ⟨h, List.mem_cons_of_mem _ h1, h2, fun y hy qy => ?_⟩
      rcases List.mem_cons.mp hy with e | hy
      · exact absurd (e ▸ qy) qa
      · exact h3 y hy qy
theorem cls_has (rf : ∀ x ∈ S, R x x) (sy : ∀ x y, R x y → R y x) (tr : ∀ x y z, R x y → R y z → R x z) (a : S.Pairwise (· < ·)) {x : Int} (hx : x ∈ S) : ∃ P ∈ clsR R S, x ∈ P := by
  obtain ⟨h, h1, h2, h3⟩ := asc_least (q := R x) a ⟨x, hx, rf x hx⟩
  refine ⟨S.filter fun y => decide (R h y), ?_, List.mem_filter.mpr ⟨hx, decide_eq_true (sy _ _ h2)⟩⟩
  unfold clsR
  refine List.mem_map.mpr ⟨h, List.mem_filter.mpr ⟨h1, ?_⟩, rfl⟩
  unfold isLst
  exact decide_eq_true fun y hy r => h3 y hy (tr _ _ _ h2 r)
theorem cls_ne {P : List Int} (rf : ∀ x ∈ S, R x x) (h : P ∈ clsR R S) : ∃ x, x ∈ P := by
  unfold clsR at h
  obtain ⟨a, ha, rfl⟩ := List.mem_map.mp h
  have := (List.mem_filter.mp ha).1
  exact ⟨a, List.mem_filter.mpr ⟨this, decide_eq_true (rf a this)⟩⟩
theorem cls_pair (sy : ∀ x y, R x y → R y x) (tr : ∀ x y z, R x y → R y z → R x z) (a : S.Pairwise (· < ·)) : (clsR R S).Pairwise fun P P' => ∀ x ∈ P, x ∉ P' := by
  unfold clsR
  refine List.pairwise_map.mpr ?_
  have h1 : (S.filter (isLst R S)).Pairwise (· < ·) := asc_filter a
  refine (List.pairwise_iff_forall_sublist.mpr fun {h h'} hs => ?_)
  have lt := List.pairwise_iff_forall_sublist.mp h1 hs
  intro x hx hx'
  have m := hs.subset
  have l2 := (List.mem_filter.mp (m (show h' ∈ [h, h'] by simp))).2
  have hS := (List.mem_filter.mp (m (show h ∈ [h, h'] by simp))).1
  unfold isLst at l2
  have r1 := of_decide_eq_true (List.mem_filter.mp hx).2
  have r2 := of_decide_eq_true (List.mem_filter.mp hx').2
  have := of_decide_eq_true l2 h hS (tr _ _ _ r2 (sy _ _ r1))
  omega
end
theorem filter_split {α : Type} (p : α → Bool) : ∀ S : List α, (S.filter p).length + (S.filter fun x => !(p x)).length = S.length
  | [] => rfl
  | a :: S => by
    have := filter_split p S
    rw [List.filter_cons, List.filter_cons]
    cases p a <;> simp <;> omega
def sumL (Ps : List (List Int)) : Nat := (Ps.map List.length).sum
/-- the classes together -/
theorem cls_sum {R : Int → Int → Prop} (sy : ∀ x y, R x y → R y x) (tr : ∀ x y z, R x y → R y z → R x z) : ∀ (n : Nat) (S : List Int), S.length ≤ n → S.Pairwise (· < ·) → (∀ x ∈ S, R x x) → sumL (clsR R S) = S.length := by
  classical
  intro n
  induction n with
  | zero =>
    intro S hS _ _
    have : S = [] := List.length_eq_zero_iff.mp (by omega)
    subst this
    rfl
  | succ n ih =>
    intro S hS a rf
    cases S with
    | nil => rfl
    | cons h t =>
      have e := clsR_cons (R := R) a rf sy tr
      have sp := filter_split (fun x => decide (R h x)) (h :: t)
      have h1 : h ∈ (h :: t).filter fun x => decide (R h x) := List.mem_filter.mpr ⟨by simp, decide_eq_true (rf h (by simp))⟩
      have h2 := List.length_pos_of_mem h1
      have := ih ((h :: t).filter fun x => !decide (R h x)) (by omega) (asc_filter a) fun x hx => rf x (List.mem_filter.mp hx).1
      rw [e]
      unfold sumL at this ⊢
      rw [List.map_cons, List.sum_cons, this]
      exact sp
theorem Cn.sy (w : List SD) (S : List Int) : ∀ x y, Cn w S x y → Cn w S y x := fun x y h => h.symm
theorem Cn.tr (w : List SD) (S : List Int) : ∀ x y z, Cn w S x y → Cn w S y z → Cn w S x z := fun x y z h h' => h.trans h'
theorem Cn.rf (w : List SD) (S : List Int) : ∀ x ∈ S, Cn w S x x := fun x h => .refl h
/-- within a class -/
theorem cls_in {w : List SD} {S P : List Int} (h : P ∈ clsR (Cn w S) S) : Hang w P := fun x hx y hy => by
  have hc : ∀ a ∈ P, ∀ b, Cn w S a b → b ∈ P := fun a ha b hab => (cls_iff (Cn.sy w S) (Cn.tr w S) h ha b).mpr ⟨hab.right, hab⟩
  exact ((cls_iff (Cn.sy w S) (Cn.tr w S) h hx y).mp hy).2.within hc hx
theorem hang_one {w : List SD} {S : List Int} (a : S.Pairwise (· < ·)) (h : (clsR (Cn w S) S).length ≤ 1) : Hang w S := fun x hx y hy => by
  obtain ⟨P, hP, hx'⟩ := cls_has (Cn.rf w S) (Cn.sy w S) (Cn.tr w S) a hx
  obtain ⟨P', hP', hy'⟩ := cls_has (Cn.rf w S) (Cn.sy w S) (Cn.tr w S) a hy
  have e : P = P' := by
    match q : clsR (Cn w S) S, h with
    | [], _ => rw [q] at hP; cases hP
    | [A], _ =>
      rw [q] at hP hP'
      simp at hP hP'
      rw [hP, hP']
    | A :: B :: r, h => simp at h
  subst e
  exact ((cls_iff (Cn.sy w S) (Cn.tr w S) hP hx' y).mp hy').2
/-- S is firm itself -/
theorem max_self {w : List SD} {S : List Int} (a : S.Pairwise (· < ·)) (f : Firm w S) (T : List Int) : T = S ↔ MaxF w S T := by
  constructor
  · rintro rfl
    exact ⟨a, fun x h => h, f, fun U ua us _ st => uniq_lt ua a fun x => ⟨us x, st x⟩⟩
  · exact fun m => (m.max S a (fun x h => h) f m.sub).symm
section
variable {w : List SD} {S : List Int} {v : Int}
def plusV (P : List Int) (v : Int) : List Int := srtI (P ++ [v])
theorem mem_plus {P : List Int} {v x : Int} : x ∈ plusV P v ↔ x ∈ P ∨ x = v := by
  unfold plusV
  rw [(srtI_perm _).mem_iff]
  simp
theorem plus_len (P : List Int) (v : Int) : (plusV P v).length = P.length + 1 := by
  unfold plusV
  rw [(srtI_perm _).length_eq]
  simp
/-- a firm set lies with one piece -/
theorem firm_in (a : S.Pairwise (· < ·)) {T : List Int} (ta : T.Pairwise (· < ·)) (ts : ∀ x ∈ T, x ∈ S) (f : Firm w T) : ∃ P ∈ clsR (Cn w (outL S v)) (outL S v), ∀ x ∈ T, x ∈ plusV P v := by
  obtain ⟨y, hy, ny⟩ := f.other ta v
  have yo : y ∈ outL S v := mem_out.mpr ⟨ts y hy, ny⟩
  obtain ⟨P, hP, hyP⟩ := cls_has (Cn.rf w _) (Cn.sy w _) (Cn.tr w _) (out_asc a) yo
  refine ⟨P, hP, fun x hx => mem_plus.mpr ?_⟩
  by_cases e : x = v
  · exact .inr e
  · refine .inl ((cls_iff (Cn.sy w _) (Cn.tr w _) hP hyP x).mpr ⟨mem_out.mpr ⟨ts x hx, e⟩, ?_⟩)
    exact (f.outs v y (mem_out.mpr ⟨hy, ny⟩) x (mem_out.mpr ⟨hx, e⟩)).mono fun z hz => mem_out.mpr ⟨ts z (mem_out.mp hz).1, (mem_out.mp hz).2⟩
theorem piece_v {P : List Int} (hP : P ∈ clsR (Cn w (outL S v)) (outL S v)) : v ∉ P := fun h => (mem_out.mp (cls_sub hP v h)).2 rfl
theorem plus_sub {P : List Int} (hv : v ∈ S) (hP : P ∈ clsR (Cn w (outL S v)) (outL S v)) : ∀ x ∈ plusV P v, x ∈ S := fun x hx => by
  rcases mem_plus.mp hx with h | h
  · exact (mem_out.mp (cls_sub hP x h)).1
  · exact h ▸ hv
theorem plus_asc {P : List Int} (a : S.Pairwise (· < ·)) (hP : P ∈ clsR (Cn w (outL S v)) (outL S v)) : (plusV P v).Pairwise (· < ·) := by
  refine srtI_lt ?_
  rw [List.nodup_append]
  exact ⟨asc_nodup (cls_asc (out_asc a) hP), by simp, fun x hx y hy e => by
    simp at hy
    subst hy
    exact piece_v hP (e ▸ hx)⟩
theorem max_iff (a : S.Pairwise (· < ·)) (hv : v ∈ S) (T : List Int) : MaxF w S T ↔ ∃ P ∈ clsR (Cn w (outL S v)) (outL S v), MaxF w (plusV P v) T := by
  constructor
  · intro m
    obtain ⟨P, hP, hT⟩ := firm_in (v := v) a m.asc m.sub m.firm
    exact ⟨P, hP, m.asc, hT, m.firm, fun U ua us uf ut => m.max U ua (fun x hx => plus_sub hv hP x (us x hx)) uf ut⟩
  · rintro ⟨P, hP, m⟩
    refine ⟨m.asc, fun x hx => plus_sub hv hP x (m.sub x hx), m.firm, fun U ua us uf ut => ?_⟩
    obtain ⟨P', hP', hU⟩ := firm_in (v := v) a ua us uf
    obtain ⟨y, hy, ny⟩ := m.firm.other m.asc v
    have y1 : y ∈ P := (mem_plus.mp (m.sub y hy)).resolve_right ny
    have y2 : y ∈ P' := (mem_plus.mp (hU y (ut y hy))).resolve_right ny
    have e := cls_eq (Cn.sy w _) (Cn.tr w _) (out_asc a) hP hP' y1 y2
    subst e
    exact m.max U ua hU uf ut
/-- no set is in two -/
theorem max_one {P P' T : List Int} (hd : ∀ x ∈ P, x ∉ P') (m : MaxF w (plusV P v) T) (m' : MaxF w (plusV P' v) T) : False := by
  obtain ⟨y, hy, ny⟩ := m.firm.other m.asc v
  exact hd y ((mem_plus.mp (m.sub y hy)).resolve_right ny) ((mem_plus.mp (m'.sub y hy)).resolve_right ny)
/-- each piece hangs together with v -/
theorem plus_hang (hS : Hang w S) (hv : v ∈ S) {P : List Int} (hP : P ∈ clsR (Cn w (outL S v)) (outL S v)) : Hang w (plusV P v) := by
  obtain ⟨h, hh⟩ := cls_ne (Cn.rf w _) hP
  have up : ∀ x ∈ P, x ∈ plusV P v := fun x hx => mem_plus.mpr (.inl hx)
  have inP : ∀ x ∈ P, Cn w (plusV P v) h x := fun x hx => (cls_in hP h hh x hx).mono up
  have key : ∀ c, Cn w S h c → c ∈ P ∨ Cn w (plusV P v) h v := by
    intro c hc
    induction hc with
    | refl _ => exact .inl hh
    | @step b c h1 h2 h3 ih =>
      rcases ih with ih | ih
      · by_cases e : c = v
        · subst e
          exact .inr (.step (inP b ih) (mem_plus.mpr (.inr rfl)) h3)
        · refine .inl ((cls_iff (Cn.sy w _) (Cn.tr w _) hP ih c).mpr ⟨mem_out.mpr ⟨h2, e⟩, ?_⟩)
          exact .step (.refl (cls_sub hP b ih)) (mem_out.mpr ⟨h2, e⟩) h3
      · exact .inr ih
  have hhS : h ∈ S := (mem_out.mp (cls_sub hP h hh)).1
  have cv : Cn w (plusV P v) h v := (key v (hS h hhS v hv)).resolve_left (piece_v hP)
  have all : ∀ x ∈ plusV P v, Cn w (plusV P v) h x := fun x hx => by
    rcases mem_plus.mp hx with q | q
    · exact inP x q
    · exact q ▸ cv
  exact fun x hx y hy => (all x hx).symm.trans (all y hy)
end
/-! ### the parts -/
theorem part_iff {w : List SD} {S : List Int} (a : S.Pairwise (· < ·)) (T : List Int) : MaxF w S T ↔ ∃ P ∈ clsR (Cn w S) S, MaxF w P T := by
  have inn : ∀ U : List Int, U.Pairwise (· < ·) → (∀ x ∈ U, x ∈ S) → Firm w U → ∃ P ∈ clsR (Cn w S) S, ∀ x ∈ U, x ∈ P := by
    intro U ua us uf
    obtain ⟨y, hy, _⟩ := uf.other ua 0
    obtain ⟨P, hP, hyP⟩ := cls_has (Cn.rf w S) (Cn.sy w S) (Cn.tr w S) a (us y hy)
    exact ⟨P, hP, fun x hx => (cls_iff (Cn.sy w S) (Cn.tr w S) hP hyP x).mpr ⟨us x hx, (uf.hang y hy x hx).mono us⟩⟩
  constructor
  · intro m
    obtain ⟨P, hP, h⟩ := inn T m.asc m.sub m.firm
    exact ⟨P, hP, m.asc, h, m.firm, fun U ua us uf ut => m.max U ua (fun x hx => cls_sub hP x (us x hx)) uf ut⟩
  · rintro ⟨P, hP, m⟩
    refine ⟨m.asc, fun x hx => cls_sub hP x (m.sub x hx), m.firm, fun U ua us uf ut => ?_⟩
    obtain ⟨P', hP', hU⟩ := inn U ua us uf
    obtain ⟨y, hy, _⟩ := m.firm.other m.asc 0
    have e := cls_eq (Cn.sy w S) (Cn.tr w S) a hP hP' (m.sub y hy) (hU y (ut y hy))
    subst e
    exact m.max U ua hU uf ut
end PP

set_option Elab.async false
set_option linter.all false
set_option maxRecDepth 100000
set_option maxHeartbeats 2000000
namespace PP
open PySem PySem.Spec PyProof.Rows L2
def kAmong (m : Nat) : KF := fun ds Q => ∃ (w : List SD) (S : List Int), ds = [webD w, tupI S] ∧ Wb 100 w ∧ InS w S ∧ S.length ≤ m ∧ Hang w S ∧ ∀ L : List (List Int), L.Nodup → (∀ T, T ∈ L ↔ MaxF w S T) → L.length ≤ S.length - 1 → Q (.list (L.map tupI))
theorem kAmong_mono (m : Nat) : MonoC (kAmong m) := fun ds Q Q' f ⟨w, S, h1, h2, h3, h4, h5, q⟩ => ⟨w, S, h1, h2, h3, h4, h5, fun L a b c => f _ (q L a b c)⟩
def kOfP (m : Nat) : KF := fun ds Q => ∃ (w : List SD) (S : List Int) (v : Int), ds = [webD w, .list ((clsR (Cn w (outL S v)) (outL S v)).map tupI), .int v] ∧ Wb 100 w ∧ InS w S ∧ v ∈ S ∧ S.length ≤ m + 1 ∧ 2 ≤ (clsR (Cn w (outL S v)) (outL S v)).length ∧ Hang w S ∧
  ∀ L : List (List Int), L.Nodup → (∀ T, T ∈ L ↔ MaxF w S T) → L.length ≤ S.length - 1 → Q (.list (L.map tupI))
theorem kOfP_mono (m : Nat) : MonoC (kOfP m) := fun ds Q Q' f ⟨w, S, v, h1, h2, h3, h4, h5, h6, h7, q⟩ => ⟨w, S, v, h1, h2, h3, h4, h5, h6, h7, fun L a b c => f _ (q L a b c)⟩
def kBlocks : KF := fun ds Q => ∃ w : List SD, ds = [webD w] ∧ Wb 10 w ∧ ∀ L : List (List Int), L.Nodup → (∀ T, T ∈ L ↔ MaxF w (stepsI w) T) → L.length ≤ w.length → Q (.tuple ((srtR L).map rowD))
theorem kBlocks_mono : MonoC kBlocks := fun ds Q Q' f ⟨w, h1, h2, q⟩ => ⟨w, h1, h2, fun L a b c => f _ (q L a b c)⟩
theorem sub_len : ∀ {T S : List Int}, T.Nodup → (∀ x ∈ T, x ∈ S) → T.length ≤ S.length
  | [], _, _, _ => by simp
  | a :: T, S, nd, h => by
    have nd' := List.nodup_cons.mp nd
    have ha := h a List.mem_cons_self
    have ih := sub_len (T := T) (S := S.erase a) nd'.2 fun x hx => by
      have : x ≠ a := fun e => nd'.1 (e ▸ hx)
      exact (List.mem_erase_of_ne this).mpr (h x (List.mem_cons_of_mem _ hx))
    rw [List.length_erase_of_mem ha] at ih
    have := List.length_pos_of_mem ha
    simp
    omega
theorem out_lt {S : List Int} {v : Int} (h : v ∈ S) : (outL S v).length < S.length := by
  have := filter_lt (S := S) (p := fun x => !(x == v)) (q := fun _ => true) (fun x _ _ => rfl) ⟨v, h, rfl, by simp⟩
  rwa [List.filter_eq_self.mpr (fun _ _ => rfl)] at this
theorem sumL_cons (P : List Int) (Ps : List (List Int)) : sumL (P :: Ps) = P.length + sumL Ps := by simp [sumL]
theorem sumL_app (A B : List (List Int)) : sumL (A ++ B) = sumL A + sumL B := by simp [sumL]
theorem sumL_ge : ∀ {Ps : List (List Int)}, (∀ P ∈ Ps, ∃ x, x ∈ P) → Ps.length ≤ sumL Ps
  | [], _ => by simp [sumL]
  | P :: Ps, h => by
    obtain ⟨x, hx⟩ := h P List.mem_cons_self
    have := List.length_pos_of_mem hx
    have := sumL_ge (Ps := Ps) fun Q hQ => h Q (List.mem_cons_of_mem _ hQ)
    rw [sumL_cons]
    simp
    omega
theorem Cl.weak {P : Program} {w : World} {K : PySem.W.Frag} {mg : Str → Option Value} {base : Heap} {x : Str} {ps : List Str} {ms : List Md} {k : Nat} {kf kf' : KF} (f : ∀ ds Q, kf' ds Q → kf ds Q) (mo : MonoC kf') (h : Cl P w K mg base k x ps ms kf) : Cl P w K mg base k x ps ms kf' := by
  obtain ⟨⟨g, fd, h1, h2, h3, h4⟩, _⟩ := h
  have up : ∀ vs H Q E, spD K ms kf' vs H Q E → spD K ms kf vs H Q E := fun vs H Q E ⟨g, F, ds, b, o, z⟩ => ⟨g, F, ds, b, o, f _ _ z⟩
  exact ⟨⟨g, fd, h1, h2, h3, ⟨fun vs H Q E z => h4.len vs H Q E (up _ _ _ _ z), fun A outer s H ar us vs Q E a b c d e z => h4.go A outer s H ar us vs Q E a b c d e (up _ _ _ _ z)⟩⟩, mo⟩
theorem kOfP0 : ∀ ds Q, kOfP 0 ds Q → kNo ds Q := fun ds Q ⟨w, S, v, _, _, hS, hv, hl, h2, _⟩ => by
  have := out_lt hv
  have e : outL S v = [] := List.length_eq_zero_iff.mp (by omega)
  rw [e] at h2
  exact absurd h2 (by simp [clsR])
/-! ### the law's looks -/
structure PairsOk (w : List SD) (ms : List (List Int)) : Prop where
  shp : ∀ n ∈ ms, ∃ a b : Int, n = [a, b] ∧ (0 ≤ b ∧ b < w.length) ∧ a ∈ inpD w b
  has : ∀ a b : Int, 0 ≤ b → b < w.length → a ∈ inpD w b → [a, b] ∈ ms
  few : ms.length < 64
open Classical in
def kHang : KF := fun ds Q => ∃ (w : List SD) (ms : List (List Int)) (T : List Int) (d : D), ds = [.list (ms.map rowD), d] ∧ (d = tupI T ∨ d = .list (T.map PyData.int)) ∧ Wb 100 w ∧ PairsOk w ms ∧ InS w T ∧ Q (.bool (decide (Hang w T)))
theorem kHang_mono : MonoC kHang := fun ds Q Q' f ⟨w, ms, T, d, h1, h2, h3, h4, h5, q⟩ => ⟨w, ms, T, d, h1, h2, h3, h4, h5, f _ q⟩
open Classical in
def kFirm : KF := fun ds Q => ∃ (w : List SD) (ms : List (List Int)) (T : List Int), ds = [.list (ms.map rowD), tupI T] ∧ Wb 100 w ∧ PairsOk w ms ∧ InS w T ∧ Q (.bool (decide (Firm w T)))
theorem kFirm_mono : MonoC kFirm := fun ds Q Q' f ⟨w, ms, T, h1, h3, h4, h5, q⟩ => ⟨w, ms, T, h1, h3, h4, h5, f _ q⟩
def kSets : KF := fun ds Q => ∃ n : Nat, ds = [.int (n : Int)] ∧ n ≤ 7 ∧ ∀ L : List (List Int), L.Nodup → (∀ T, T ∈ L ↔ T.Pairwise (· < ·) ∧ (∀ x ∈ T, 0 ≤ x ∧ x < n) ∧ 2 ≤ T.length) → L.length ≤ 128 → Q (.list (L.map tupI))
theorem kSets_mono : MonoC kSets := fun ds Q Q' f ⟨n, h1, h2, q⟩ => ⟨n, h1, h2, fun L a b c => f _ (q L a b c)⟩
def kLBlocks : KF := fun ds Q => ∃ w : List SD, ds = [webD w] ∧ Wb 7 w ∧ ∀ L : List (List Int), L.Nodup → (∀ T, T ∈ L ↔ MaxF w (stepsI w) T) → Q (.tuple ((srtR L).map rowD))
theorem kLBlocks_mono : MonoC kLBlocks := fun ds Q Q' f ⟨w, h1, h2, q⟩ => ⟨w, h1, h2, fun L a b => f _ (q L a b)⟩
end PP

set_option Elab.async false
set_option linter.all false
set_option maxRecDepth 100000
set_option maxHeartbeats 2000000
namespace PP
open PySem PySem.Spec PyProof.Rows L2
/-! ### the law's own look: what is found from one step on -/
structure Hv (w : List SD) (T : List Int) (t0 : Int) (fo wa : List Int) : Prop where
  nd : fo.Nodup
  wn : wa.Nodup
  cn : ∀ x ∈ fo, Cn w T t0 x
  sub : ∀ x ∈ wa, x ∈ fo
  has : t0 ∈ fo
  cl : ∀ b ∈ fo, b ∉ wa → ∀ c ∈ T, adjB w b c = true → c ∈ fo
structure Hg (w : List SD) (T : List Int) (t0 g : Int) (fo wa : List Int) : Prop where
  nd : fo.Nodup
  wn : wa.Nodup
  cn : ∀ x ∈ fo, Cn w T t0 x
  sub : ∀ x ∈ wa, x ∈ fo
  has : t0 ∈ fo
  cl : ∀ b ∈ fo, b ∉ wa → b ≠ g → ∀ c ∈ T, adjB w b c = true → c ∈ fo
  gl : g ∈ fo
  gw : g ∉ wa
variable {w : List SD} {T : List Int} {t0 g : Int} {fo wa : List Int}
theorem hv0 (h : t0 ∈ T) : Hv w T t0 [t0] [t0] := ⟨by simp, by simp, fun x hx => by
  have : x = t0 := by simpa using hx
  subst this
  exact .refl h, fun x hx => hx, by simp, fun b hb nb => absurd hb nb⟩
theorem Hv.pop {wb : List Int} (h : Hv w T t0 fo (wb ++ [g])) : Hg w T t0 g fo wb := by
  have wn := List.nodup_append.mp h.wn
  refine ⟨h.nd, wn.1, h.cn, fun x hx => h.sub x (by simp [hx]), h.has, fun b hb nb ng => h.cl b hb ?_, h.sub g (by simp), fun hg => wn.2.2 g hg g (by simp) rfl⟩
  simp
  exact ⟨nb, ng⟩
theorem Hg.add {y : Int} (h : Hg w T t0 g fo wa) (hy : y ∈ T) (ny : y ∉ fo) (ad : adjB w g y = true) : Hg w T t0 g (fo ++ [y]) (wa ++ [y]) := by
  refine ⟨?_, ?_, fun x hx => ?_, fun x hx => ?_, by simp [h.has], fun b hb nb ng c hc e => ?_, by simp [h.gl], fun hg => ?_⟩
  · rw [List.nodup_append]
    exact ⟨h.nd, by simp, fun a ha b hb e => by simp at hb; subst hb; exact ny (e ▸ ha)⟩
  · rw [List.nodup_append]
    exact ⟨h.wn, by simp, fun a ha b hb e => by simp at hb; subst hb; exact ny (e ▸ h.sub a ha)⟩
  · rcases List.mem_append.mp hx with q | q
    · exact h.cn x q
    · have q : x = y := by simpa using q
      subst q
      exact .step (h.cn g h.gl) hy ad
  · rcases List.mem_append.mp hx with q | q
    · exact List.mem_append_left _ (h.sub x q)
    · exact List.mem_append_right _ q
  · rcases List.mem_append.mp hb with q | q
    · exact List.mem_append_left _ (h.cl b q (fun z => nb (by simp [z])) ng c hc e)
    · exact absurd (List.mem_append_right _ q) nb
  · rcases List.mem_append.mp hg with q | q
    · exact h.gw q
    · have q : g = y := by simpa using q
      exact ny (q ▸ h.gl)
theorem Hg.fin {ms : List (List Int)} (hP : PairsOk w ms) (hT : InS w T) (h : Hg w T t0 g fo wa) (hd : ∀ a b : Int, [a, b] ∈ ms → (a = g → b ∈ T → b ∈ fo) ∧ (b = g → a ∈ T → a ∈ fo)) : Hv w T t0 fo wa := by
  refine ⟨h.nd, h.wn, h.cn, h.sub, h.has, fun b hb nb c hc e => ?_⟩
  by_cases ng : b = g
  · subst ng
    unfold adjB at e
    rw [Bool.or_eq_true, any_is, any_is] at e
    have bc := hT.bd c hc
    have bb := hT.bd b (h.cn b hb).right
    rcases e with e | e
    · exact (hd b c (hP.has b c bc.1 bc.2 e)).1 rfl hc
    · exact (hd c b (hP.has c b bb.1 bb.2 e)).2 rfl hc
  · exact h.cl b hb nb ng c hc e
theorem hang_len (hT : InS w T) (h : Hv w T t0 fo []) : (fo.length = T.length) ↔ Hang w T := by
  have all : ∀ x, Cn w T t0 x → x ∈ fo := by
    intro x hx
    induction hx with
    | refl _ => exact h.has
    | step h1 h2 h3 ih => exact h.cl _ ih (by simp) _ h2 h3
  have sub : ∀ x ∈ fo, x ∈ T := fun x hx => (h.cn x hx).right
  have le := sub_len h.nd sub
  constructor
  · intro e
    have all2 : ∀ x ∈ T, x ∈ fo := by
      intro x hx
      refine Classical.byContradiction fun nx => ?_
      have := sub_len (T := x :: fo) (S := T) (List.nodup_cons.mpr ⟨nx, h.nd⟩) fun y hy => by
        rcases List.mem_cons.mp hy with q | q
        · exact q ▸ hx
        · exact sub y q
      simp at this
      omega
    exact fun x hx y hy => (h.cn x (all2 x hx)).symm.trans (h.cn y (all2 y hy))
  · intro hg
    have := sub_len (asc_nodup hT.asc) fun x hx => all x (hg t0 (h.cn t0 h.has).left x hx)
    omega
end PP
namespace PP
open PySem PySem.Spec PyProof.Rows L2
theorem asc_last {T : List Int} {t : Int} (h : T.Pairwise (· < ·)) (hb : ∀ x ∈ T, x ≤ t) (ht : t ∈ T) : ∃ U, T = U ++ [t] ∧ ∀ x ∈ U, x < t := by
  induction T with
  | nil => cases ht
  | cons a T ih =>
    obtain ⟨h1, h2⟩ := List.pairwise_cons.mp h
    cases T with
    | nil =>
      have : t = a := by simpa using ht
      subst this
      exact ⟨[], rfl, fun x hx => (nomatch hx)⟩
    | cons b T =>
      have tT : t ∈ b :: T := by
        rcases List.mem_cons.mp ht with e | e
        · have := h1 b List.mem_cons_self
          have := hb b (by simp)
          omega
        · exact e
      obtain ⟨U, e, hU⟩ := ih h2 (fun x hx => hb x (List.mem_cons_of_mem _ hx)) tT
      refine ⟨a :: U, by rw [e]; rfl, fun x hx => ?_⟩
      rcases List.mem_cons.mp hx with q | q
      · subst q; exact h1 t tT
      · exact hU x q
theorem app_inj {A B : List Int} {t : Int} (h : A ++ [t] = B ++ [t]) : A = B := List.append_cancel_right h
end PP

set_option Elab.async false
set_option linter.all false
set_option maxRecDepth 100000
set_option maxHeartbeats 2000000
namespace PP
open PySem PySem.Spec PyProof.Rows L2
/-! ### the same rows sorted -/
theorem srt_same {L L' : List (List Int)} (h : L.Nodup) (h' : L'.Nodup) (e : ∀ T, T ∈ L ↔ T ∈ L') : srtR L = srtR L' :=
  srtR_eq ((srtR_perm L).trans ((List.perm_ext_iff_of_nodup h h').mpr e)) (srtR_asc L)
theorem srt_lit {L K : List (List Int)} (h : L.Nodup) (h' : K.Nodup) (a : Asc K) (e : ∀ T, T ∈ L ↔ T ∈ K) : srtR L = K :=
  (srtR_eq ((List.perm_ext_iff_of_nodup h' h).mpr fun T => (e T).symm) a).symm
theorem sw_blocks {w : List SD} {L : List (List Int)} (hn : w.length ≤ 10) (hm : ∀ T ∈ L, ∀ x ∈ T, x ∈ stepsI w) (ha : ∀ T ∈ L, T.Pairwise (· < ·)) (hl : L.length ≤ w.length) : Sw 100000 64 (.tuple ((srtR L).map rowD)) := by
  have h1 : ∀ d ∈ (srtR L).map rowD, Sw 103 2 d := by
    intro d hd
    obtain ⟨T, hT, rfl⟩ := List.mem_map.mp hd
    have hT := (srtR_perm L).mem_iff.mp hT
    have l := sub_len (asc_nodup (ha T hT)) (hm T hT)
    rw [steps_len] at l
    exact (sw_ints (ns := T) fun i hi => by have := (InS.all w).bd i (hm T hT i hi); omega).mono (by omega) (by decide)
  have ll := (srtR_perm L).length_eq
  exact (Sw.tup h1).mono (by rw [List.length_map]; omega) (by decide)
/-! ### small webs by computing -/
def ptB (w : List SD) (S : List Int) (y : Int) : Nat → Int → Bool
  | 0, x => (x == y) && S.any (· == x)
  | t + 1, x => ptB w S y t x || (S.any (· == x) && S.any fun z => ptB w S y t z && adjB w z x)
theorem ptB_iff {w : List SD} {S : List Int} {y : Int} : ∀ {t : Nat} {x : Int}, ptB w S y t x = true ↔ Pt w S y t x
  | 0, x => by
    show ((x == y) && S.any (· == x)) = true ↔ x = y ∧ x ∈ S
    rw [Bool.and_eq_true, any_is, beq_iff_eq]
  | t + 1, x => by
    show (ptB w S y t x || (S.any (· == x) && S.any fun z => ptB w S y t z && adjB w z x)) = true ↔ Pt w S y t x ∨ ∃ z, Pt w S y t z ∧ x ∈ S ∧ adjB w z x = true
    rw [Bool.or_eq_true, Bool.and_eq_true, any_is, List.any_eq_true, ptB_iff]
    refine or_congr Iff.rfl ⟨fun ⟨h1, z, h2, h3⟩ => ?_, fun ⟨z, h1, h2, h3⟩ => ⟨h2, z, h1.mem, ?_⟩⟩
    · rw [Bool.and_eq_true, ptB_iff] at h3
      exact ⟨z, h3.1, h1, h3.2⟩
    · rw [Bool.and_eq_true, ptB_iff]
      exact ⟨h1, h3⟩
def hangB (w : List SD) (T : List Int) : Bool := T.all fun y => T.all fun x => ptB w T y T.length x
theorem hangB_iff {w : List SD} {T : List Int} : hangB w T = true ↔ Hang w T := by
  unfold hangB
  rw [List.all_eq_true]
  refine forall_congr' fun y => forall_congr' fun _ => ?_
  rw [List.all_eq_true]
  refine forall_congr' fun x => forall_congr' fun _ => ?_
  rw [ptB_iff]
  exact ⟨Pt.cn, Cn.pt⟩
def firmB (w : List SD) (T : List Int) : Bool := decide (2 ≤ T.length) && (hangB w T && T.all fun v => hangB w (outL T v))
theorem firmB_iff {w : List SD} {T : List Int} : firmB w T = true ↔ Firm w T := by
  unfold firmB
  rw [Bool.and_eq_true, Bool.and_eq_true, decide_eq_true_eq, hangB_iff, List.all_eq_true]
  exact ⟨fun ⟨a, b, c⟩ => ⟨a, b, fun v hv => hangB_iff.mp (c v hv)⟩, fun f => ⟨f.two, f.hang, fun v hv => hangB_iff.mpr (f.out v hv)⟩⟩
def subs : Nat → List (List Int)
  | 0 => [[]]
  | t + 1 => subs t ++ (subs t).map fun T => T ++ [(t : Int)]
theorem mem_subs : ∀ {t : Nat} {T : List Int}, T ∈ subs t ↔ T.Pairwise (· < ·) ∧ ∀ x ∈ T, 0 ≤ x ∧ x < t
  | 0, T => by
    show T ∈ [[]] ↔ _
    rw [List.mem_singleton]
    constructor
    · rintro rfl
      exact ⟨.nil, fun x h => (nomatch h)⟩
    · rintro ⟨_, h⟩
      cases T with
      | nil => rfl
      | cons a T => have := h a (by simp); omega
  | t + 1, T => by
    show T ∈ subs t ++ (subs t).map (fun T => T ++ [(t : Int)]) ↔ _
    rw [List.mem_append, mem_subs, List.mem_map]
    constructor
    · rintro (⟨h1, h2⟩ | ⟨U, hU, rfl⟩)
      · exact ⟨h1, fun x hx => by have := h2 x hx; omega⟩
      · obtain ⟨h1, h2⟩ := mem_subs.mp hU
        refine ⟨List.pairwise_append.mpr ⟨h1, by simp, fun x hx y hy => by have := h2 x hx; simp at hy; omega⟩, fun x hx => ?_⟩
        rcases List.mem_append.mp hx with z | z
        · have := h2 x z; omega
        · simp at z; omega
    · rintro ⟨h1, h2⟩
      by_cases tT : (t : Int) ∈ T
      · obtain ⟨U, rfl, hU⟩ := asc_last h1 (fun x hx => by have := h2 x hx; omega) tT
        exact .inr ⟨U, mem_subs.mpr ⟨(List.pairwise_append.mp h1).1, fun x hx => ⟨(h2 x (by simp [hx])).1, hU x hx⟩⟩, rfl⟩
      · refine .inl ⟨h1, fun x hx => ?_⟩
        have := h2 x hx
        have : x ≠ t := fun e => tT (e ▸ hx)
        omega
theorem sub_steps {w : List SD} {T : List Int} : (T.Pairwise (· < ·) ∧ ∀ x ∈ T, x ∈ stepsI w) ↔ T ∈ subs w.length := by
  rw [mem_subs]
  refine and_congr Iff.rfl (forall_congr' fun x => forall_congr' fun _ => ?_)
  exact ⟨(InS.all w).bd x, fun h => mem_rowI.mpr ⟨x.toNat, by omega, by omega⟩⟩
def maxB (w : List SD) (T : List Int) : Bool := firmB w T && (subs w.length).all fun U => !(firmB w U && T.all fun x => U.any (· == x)) || decide (U = T)
theorem maxB_iff {w : List SD} {T : List Int} : MaxF w (stepsI w) T ↔ T ∈ (subs w.length).filter (maxB w) := by
  rw [List.mem_filter, ← sub_steps]
  unfold maxB
  rw [Bool.and_eq_true, firmB_iff, List.all_eq_true]
  have key : ∀ U : List Int, ((!(firmB w U && T.all fun x => U.any (· == x)) || decide (U = T)) = true) ↔ (Firm w U → (∀ x ∈ T, x ∈ U) → U = T) := fun U => by
    rw [Bool.or_eq_true, Bool.not_eq_true', decide_eq_true_eq, ← Bool.not_eq_true, Bool.and_eq_true, firmB_iff, List.all_eq_true]
    have e : (∀ x ∈ T, (U.any (· == x)) = true) ↔ ∀ x ∈ T, x ∈ U := forall_congr' fun x => forall_congr' fun _ => any_is
    rw [e]
    constructor
    · rintro (h | h) f g
      · exact absurd ⟨f, g⟩ h
      · exact h
    · intro h
      by_cases f : Firm w U ∧ ∀ x ∈ T, x ∈ U
      · exact .inr (h f.1 f.2)
      · exact .inl f
  constructor
  · intro m
    exact ⟨⟨m.asc, m.sub⟩, m.firm, fun U hU => (key U).mpr fun f g => m.max U (sub_steps.mpr hU).1 (sub_steps.mpr hU).2 f g⟩
  · rintro ⟨⟨h1, h2⟩, h3, h4⟩
    exact ⟨h1, h2, h3, fun U ua us uf ut => (key U).mp (h4 U (sub_steps.mp ⟨ua, us⟩)) uf ut⟩
end PP

set_option Elab.async false
set_option linter.all false
set_option maxRecDepth 100000
set_option maxHeartbeats 2000000
namespace PP
open PySem PySem.Spec PyProof.Rows L2
/-! ### the sizes of blocks, and what two of them share -/
def sz (L : List (List Int)) : Nat := (L.map fun T => T.length - 1).sum
theorem sz_nil : sz [] = 0 := rfl
theorem sz_app (A B : List (List Int)) : sz (A ++ B) = sz A + sz B := by simp [sz]
theorem sz_perm {A B : List (List Int)} (h : A.Perm B) : sz A = sz B := (h.map _).sum_nat
structure Told (M : List Int → Prop) (k : Nat) (L : List (List Int)) : Prop where
  nd : L.Nodup
  mem : ∀ T, T ∈ L ↔ M T
  sum : sz L = k
theorem glue {M : List Int → List Int → Prop} {f : List Int → Nat} : ∀ {C : List (List Int)}, (∀ P ∈ C, ∃ L, Told (M P) (f P) L) → C.Pairwise (fun P P' => ∀ T, M P T → M P' T → False) → ∃ L, Told (fun T => ∃ P ∈ C, M P T) (C.map f).sum L
  | [], _, _ => ⟨[], List.nodup_nil, by simp, rfl⟩
  | P :: C, h, hp => by
    obtain ⟨h1, h2⟩ := List.pairwise_cons.mp hp
    obtain ⟨A, a⟩ := h P List.mem_cons_self
    obtain ⟨B, b⟩ := glue (C := C) (fun Q hQ => h Q (List.mem_cons_of_mem _ hQ)) h2
    refine ⟨A ++ B, List.nodup_append.mpr ⟨a.nd, b.nd, fun x hx y hy e => ?_⟩, fun T => ?_, ?_⟩
    · subst e
      obtain ⟨Q, hQ, m⟩ := (b.mem x).mp hy
      exact h1 Q hQ x ((a.mem x).mp hx) m
    · rw [List.mem_append, a.mem, b.mem]
      simp [or_and_right, exists_or]
    · rw [sz_app, a.sum, b.sum, List.map_cons, List.sum_cons]
section
variable {w : List SD}
theorem asc_sub_eq {T U : List Int} (ta : T.Pairwise (· < ·)) (ua : U.Pairwise (· < ·)) (h : ∀ x ∈ T, x ∈ U) (hl : U.length ≤ T.length) : T = U := by
  refine uniq_lt ta ua fun x => ⟨h x, fun hx => ?_⟩
  refine Classical.byContradiction fun no => ?_
  have := sub_len (T := x :: T) (S := U) (List.nodup_cons.mpr ⟨no, asc_nodup ta⟩) fun z hz => by
    rcases List.mem_cons.mp hz with e | hz
    · exact e ▸ hx
    · exact h z hz
  rw [List.length_cons] at this
  omega
theorem sum_add_len {C : List (List Int)} (h : ∀ P ∈ C, 1 ≤ P.length) : (C.map fun P => P.length - 1).sum + C.length = sumL C := by
  induction C with
  | nil => rfl
  | cons P C ih =>
    have := ih fun Q hQ => h Q (List.mem_cons_of_mem _ hQ)
    have := h P List.mem_cons_self
    rw [sumL_cons, List.map_cons, List.sum_cons, List.length_cons]
    omega
theorem len_of_ne {P : List Int} (h : ∃ x, x ∈ P) : 1 ≤ P.length := by
  obtain ⟨x, hx⟩ := h
  exact List.length_pos_of_mem hx
theorem sz_hang : ∀ (n : Nat) (S : List Int), S.length ≤ n → S.Pairwise (· < ·) → Hang w S → ∃ L, Told (MaxF w S) (S.length - 1) L := by
  intro n
  induction n with
  | zero =>
    intro S hl a _
    have e : S = [] := List.eq_nil_of_length_eq_zero (by omega)
    subst e
    refine ⟨[], List.nodup_nil, fun T => ⟨fun h => (nomatch h), fun m => ?_⟩, rfl⟩
    obtain ⟨y, hy, _⟩ := m.firm.other m.asc 0
    exact nomatch m.sub y hy
  | succ n ih =>
    intro S hl a hS
    by_cases l2 : S.length < 2
    · refine ⟨[], List.nodup_nil, fun T => ⟨fun h => (nomatch h), fun m => ?_⟩, by rw [sz_nil]; omega⟩
      have := m.firm.two
      have := sub_len (asc_nodup m.asc) m.sub
      omega
    · by_cases q : ∀ v ∈ S, (clsR (Cn w (outL S v)) (outL S v)).length ≤ 1
      · have f : Firm w S := ⟨by omega, hS, fun v hv => hang_one (out_asc a) (q v hv)⟩
        refine ⟨[S], by simp, fun T => ?_, by simp [sz]⟩
        rw [List.mem_singleton]
        exact max_self a f T
      · have ⟨v, hv, h2⟩ : ∃ v ∈ S, 2 ≤ (clsR (Cn w (outL S v)) (outL S v)).length := by
          refine Classical.byContradiction fun no => q fun v hv => ?_
          exact Classical.byContradiction fun k => no ⟨v, hv, by omega⟩
        have oa := out_asc (v := v) a
        have total : sumL (clsR (Cn w (outL S v)) (outL S v)) = (outL S v).length := cls_sum (Cn.sy w _) (Cn.tr w _) _ _ (Nat.le_refl _) oa (Cn.rf w _)
        have ne : ∀ P ∈ clsR (Cn w (outL S v)) (outL S v), 1 ≤ P.length := fun P hP => len_of_ne (cls_ne (Cn.rf w _) hP)
        have ol := out_lt hv
        have small : ∀ P ∈ clsR (Cn w (outL S v)) (outL S v), P.length + 1 < S.length := by
          intro P hP
          obtain ⟨A, B, e⟩ := List.append_of_mem hP
          rw [e, sumL_app, sumL_cons] at total
          have hA : A.length ≤ sumL A := sumL_ge fun Q hQ => cls_ne (Cn.rf w _) (by rw [e]; simp [hQ])
          have hB : B.length ≤ sumL B := sumL_ge fun Q hQ => cls_ne (Cn.rf w _) (by rw [e]; simp [hQ])
          rw [e, List.length_append, List.length_cons] at h2
          omega
        obtain ⟨L, t⟩ := glue (M := fun P => MaxF w (plusV P v)) (f := fun P => P.length) (C := clsR (Cn w (outL S v)) (outL S v)) (fun P hP => by
          obtain ⟨L, t⟩ := ih (plusV P v) (by rw [plus_len]; have := small P hP; omega) (plus_asc a hP) (plus_hang hS hv hP)
          rw [plus_len, Nat.add_sub_cancel] at t
          exact ⟨L, t⟩) ((cls_pair (Cn.sy w _) (Cn.tr w _) oa).imp fun h T m m' => max_one h m m')
        refine ⟨L, t.nd, fun T => (t.mem T).trans (max_iff a hv T).symm, ?_⟩
        rw [t.sum]
        show sumL _ = _
        rw [total]
        have hS2 : (outL S v).length + 1 = S.length := by
          have := filter_split (fun x => !(x == v)) S
          have e : (S.filter fun x => !(!(x == v))) = [v] := by
            refine uniq_lt (asc_filter a) (by simp) fun x => ?_
            rw [List.mem_filter]
            rw [Bool.not_not, beq_iff_eq, List.mem_singleton]
            exact ⟨fun h => h.2, fun h => ⟨h ▸ hv, h⟩⟩
          rw [e] at this
          exact this
        omega
theorem sz_all {S : List Int} (a : S.Pairwise (· < ·)) : ∃ L, L.Nodup ∧ (∀ T, T ∈ L ↔ MaxF w S T) ∧ sz L + (clsR (Cn w S) S).length = S.length := by
  obtain ⟨L, t⟩ := glue (M := fun P => MaxF w P) (f := fun P => P.length - 1) (C := clsR (Cn w S) S) (fun P hP => sz_hang _ P (Nat.le_refl _) (cls_asc a hP) (cls_in hP)) ((cls_pair (Cn.sy w _) (Cn.tr w _) a).imp fun h T m m' => by
    obtain ⟨y, hy, _⟩ := m.firm.other m.asc 0
    exact h y (m.sub y hy) (m'.sub y hy))
  refine ⟨L, t.nd, fun T => (t.mem T).trans (part_iff a T).symm, ?_⟩
  rw [t.sum, sum_add_len fun P hP => len_of_ne (cls_ne (Cn.rf w _) hP)]
  exact cls_sum (Cn.sy w _) (Cn.tr w _) _ _ (Nat.le_refl _) a (Cn.rf w _)
/-- each firm set lies in a greatest one -/
theorem max_over {S : List Int} : ∀ (n : Nat) (T : List Int), S.length - T.length ≤ n → T.Pairwise (· < ·) → (∀ x ∈ T, x ∈ S) → Firm w T → ∃ U, MaxF w S U ∧ ∀ x ∈ T, x ∈ U := by
  intro n
  induction n with
  | zero =>
    intro T hn ta ts tf
    refine ⟨T, ⟨ta, ts, tf, fun U ua us uf ut => ?_⟩, fun x hx => hx⟩
    have h1 := sub_len (asc_nodup ua) us
    have h2 := sub_len (asc_nodup ta) ut
    exact (asc_sub_eq ta ua ut (by omega)).symm
  | succ n ih =>
    intro T hn ta ts tf
    by_cases q : ∀ U : List Int, U.Pairwise (· < ·) → (∀ x ∈ U, x ∈ S) → Firm w U → (∀ x ∈ T, x ∈ U) → U = T
    · exact ⟨T, ⟨ta, ts, tf, q⟩, fun x hx => hx⟩
    · have ⟨U, ua, us, uf, ut, ne⟩ : ∃ U : List Int, U.Pairwise (· < ·) ∧ (∀ x ∈ U, x ∈ S) ∧ Firm w U ∧ (∀ x ∈ T, x ∈ U) ∧ U ≠ T :=
        Classical.byContradiction fun no => q fun U a b c d => Classical.byContradiction fun e => no ⟨U, a, b, c, d, e⟩
      have lt : T.length < U.length := by
        have h2 := sub_len (asc_nodup ta) ut
        refine Classical.byContradiction fun k => ne ?_
        exact (asc_sub_eq ta ua ut (by omega)).symm
      obtain ⟨V, hV, h⟩ := ih U (by have := sub_len (asc_nodup ua) us; omega) ua us uf
      exact ⟨V, hV, fun x hx => h x (ut x hx)⟩
/-- two blocks that share two steps are one -/
theorem two_share {S T U : List Int} (a : S.Pairwise (· < ·)) (m : MaxF w S T) (m' : MaxF w S U) {x y : Int} (ne : x ≠ y) (hx : x ∈ T) (hy : y ∈ T) (hx' : x ∈ U) (hy' : y ∈ U) : T = U := by
  have hV : ∀ z, z ∈ (S.filter fun z => T.any (· == z) || U.any (· == z)) ↔ z ∈ T ∨ z ∈ U := fun z => by
    rw [List.mem_filter, Bool.or_eq_true, any_eq, any_eq, decide_eq_true_eq, decide_eq_true_eq]
    exact ⟨fun h => h.2, fun h => ⟨h.elim (m.sub z) (m'.sub z), h⟩⟩
  generalize eV : (S.filter fun z => T.any (· == z) || U.any (· == z)) = V at hV
  have va : V.Pairwise (· < ·) := by rw [← eV]; exact asc_filter a
  have vs : ∀ z ∈ V, z ∈ S := fun z hz => ((hV z).mp hz).elim (m.sub z) (m'.sub z)
  have oT : ∀ v z, z ∈ outL T v → z ∈ outL V v := fun v z h => mem_out.mpr ⟨(hV z).mpr (.inl (mem_out.mp h).1), (mem_out.mp h).2⟩
  have oU : ∀ v z, z ∈ outL U v → z ∈ outL V v := fun v z h => mem_out.mpr ⟨(hV z).mpr (.inr (mem_out.mp h).1), (mem_out.mp h).2⟩
  have vf : Firm w V := by
    refine ⟨Nat.le_trans m.firm.two (sub_len (asc_nodup m.asc) fun z hz => (hV z).mpr (.inl hz)), ?_, fun v _ => ?_⟩
    · have to : ∀ z ∈ V, Cn w V z x := fun z hz => by
        rcases (hV z).mp hz with h | h
        · exact (m.firm.hang z h x hx).mono fun z hz => (hV z).mpr (.inl hz)
        · exact (m'.firm.hang z h x hx').mono fun z hz => (hV z).mpr (.inr hz)
      exact fun p hp q hq => (to p hp).trans (to q hq).symm
    · have ⟨c, nc, cT, cU⟩ : ∃ c, c ≠ v ∧ c ∈ T ∧ c ∈ U := by
        by_cases e : x = v
        · exact ⟨y, fun e' => ne (e.trans e'.symm), hy, hy'⟩
        · exact ⟨x, e, hx, hx'⟩
      have to : ∀ z ∈ outL V v, Cn w (outL V v) z c := fun z hz => by
        obtain ⟨h, nz⟩ := mem_out.mp hz
        rcases (hV z).mp h with h | h
        · exact (m.firm.outs v z (mem_out.mpr ⟨h, nz⟩) c (mem_out.mpr ⟨cT, nc⟩)).mono (oT v)
        · exact (m'.firm.outs v z (mem_out.mpr ⟨h, nz⟩) c (mem_out.mpr ⟨cU, nc⟩)).mono (oU v)
      exact fun p hp q hq => (to p hp).trans (to q hq).symm
  exact (m.max V va vs vf fun z hz => (hV z).mpr (.inl hz)).symm.trans (m'.max V va vs vf fun z hz => (hV z).mpr (.inr hz))
/-- two tied steps lie in a block -/
theorem tie_in {S : List Int} (a : S.Pairwise (· < ·)) {x y : Int} (hx : x ∈ S) (hy : y ∈ S) (ne : x ≠ y) (h : adjB w x y = true) : ∃ T, MaxF w S T ∧ x ∈ T ∧ y ∈ T := by
  have hT : ∀ z, z ∈ (S.filter fun z => z == x || z == y) ↔ z = x ∨ z = y := fun z => by
    rw [List.mem_filter, Bool.or_eq_true, beq_iff_eq, beq_iff_eq]
    exact ⟨fun h => h.2, fun h => ⟨h.elim (fun e => e ▸ hx) (fun e => e ▸ hy), h⟩⟩
  generalize eT : (S.filter fun z => z == x || z == y) = T at hT
  have ta : T.Pairwise (· < ·) := by rw [← eT]; exact asc_filter a
  have ts : ∀ z ∈ T, z ∈ S := fun z hz => ((hT z).mp hz).elim (fun e => e ▸ hx) (fun e => e ▸ hy)
  have tx := (hT x).mpr (.inl rfl)
  have ty := (hT y).mpr (.inr rfl)
  have tf : Firm w T := by
    refine ⟨?_, ?_, fun v hv => ?_⟩
    · have := sub_len (T := [x, y]) (S := T) (by simp [ne]) (fun z hz => by
        simp only [List.mem_cons, List.not_mem_nil, or_false] at hz
        exact (hT z).mpr hz)
      exact this
    · have c : Cn w T x y := .step (.refl tx) ty h
      intro p hp q hq
      rcases (hT p).mp hp with rfl | rfl <;> rcases (hT q).mp hq with rfl | rfl
      · exact .refl tx
      · exact c
      · exact c.symm
      · exact .refl ty
    · intro p hp q hq
      obtain ⟨p1, p2⟩ := mem_out.mp hp
      obtain ⟨q1, q2⟩ := mem_out.mp hq
      have e : p = q := by
        rcases (hT p).mp p1 with e1 | e1 <;> rcases (hT q).mp q1 with e2 | e2 <;> rcases (hT v).mp hv with e3 | e3
        · rw [e1, e2]
        · rw [e1, e2]
        · exact absurd (e1.trans e3.symm) p2
        · exact absurd (e2.trans e3.symm) q2
        · exact absurd (e2.trans e3.symm) q2
        · exact absurd (e1.trans e3.symm) p2
        · rw [e1, e2]
        · rw [e1, e2]
      subst e
      exact .refl hp
  obtain ⟨U, m, hU⟩ := max_over _ T (Nat.le_refl _) ta ts tf
  exact ⟨U, m, hU x tx, hU y ty⟩
theorem filter_one {α : Type} {p : α → Bool} : ∀ {L : List α}, L.Nodup → (∃ x ∈ L, p x = true) → (∀ x ∈ L, ∀ y ∈ L, p x = true → p y = true → x = y) → (L.filter p).length = 1 := by
  intro L nd h u
  obtain ⟨x, hx, px⟩ := h
  have e : ∀ y ∈ L.filter p, y = x := fun y hy => u y (List.mem_filter.mp hy).1 x hx (List.mem_filter.mp hy).2 px
  have nd' : (L.filter p).Nodup := nd.filter _
  have hx' : x ∈ L.filter p := List.mem_filter.mpr ⟨hx, px⟩
  match q : L.filter p with
  | [] => rw [q] at hx'; cases hx'
  | [_] => rfl
  | a :: b :: r =>
    rw [q] at e nd'
    have e1 := e a (by simp)
    have e2 := e b (by simp)
    rw [e1, e2] at nd'
    simp at nd'
end
end PP

set_option Elab.async false
set_option linter.all false
set_option maxRecDepth 100000
set_option maxHeartbeats 2000000
namespace PP
open PySem PySem.Spec PyProof.Rows L2
/-! ### a block is taken out -/
section
variable {w : List SD} {S P : List Int} {v : Int}
def minus (S P : List Int) : List Int := S.filter fun x => !decide (x ∈ P)
theorem mem_minus {x : Int} : x ∈ minus S P ↔ x ∈ S ∧ x ∉ P := by
  unfold minus
  rw [List.mem_filter]
  simp
theorem minus_asc (a : S.Pairwise (· < ·)) : (minus S P).Pairwise (· < ·) := asc_filter a
theorem firm_closed (cl : ∀ x ∈ P, ∀ y ∈ S, adjB w x y = true → y ∈ P ∨ y = v) {T : List Int} (ts : ∀ x ∈ T, x ∈ S) (f : Firm w T) {p : Int} (hp : p ∈ T) (hpP : p ∈ P) (pv : p ≠ v) : ∀ x ∈ T, x ∈ P ∨ x = v := by
  have key : ∀ c, Cn w (outL T v) p c → c ∈ P := fun c hc => by
    induction hc with
    | refl _ => exact hpP
    | @step b c h1 h2 h3 ih => exact (cl b ih c (ts c (mem_out.mp h2).1) h3).resolve_right (mem_out.mp h2).2
  intro x hx
  by_cases e : x = v
  · exact .inr e
  · exact .inl (key x (f.outs v p (mem_out.mpr ⟨hp, pv⟩) x (mem_out.mpr ⟨hx, e⟩)))
theorem plus_asc' (nd : P.Nodup) (vP : v ∉ P) : (plusV P v).Pairwise (· < ·) := by
  refine srtI_lt ?_
  rw [List.nodup_append]
  exact ⟨nd, by simp, fun x hx y hy e => by
    simp at hy
    subst hy
    exact vP (e ▸ hx)⟩
theorem pop_iff (hv : v ∈ S) (hP : ∀ x ∈ P, x ∈ S) (vP : v ∉ P) (nd : P.Nodup) (cl : ∀ x ∈ P, ∀ y ∈ S, adjB w x y = true → y ∈ P ∨ y = v) (f : Firm w (plusV P v)) (T : List Int) :
    MaxF w S T ↔ T = plusV P v ∨ MaxF w (minus S P) T := by
  have pa := plus_asc' (v := v) nd vP
  have ps : ∀ x ∈ plusV P v, x ∈ S := fun x hx => by
    rcases mem_plus.mp hx with h | h
    · exact hP x h
    · exact h ▸ hv
  obtain ⟨p, hp, pv⟩ := f.other pa v
  have hpP : p ∈ P := (mem_plus.mp hp).resolve_right pv
  have ne : ∀ x ∈ P, x ≠ v := fun x hx e => vP (e ▸ hx)
  constructor
  · intro m
    by_cases h : ∃ q ∈ T, q ∈ P
    · obtain ⟨q, hq, hqP⟩ := h
      have := firm_closed cl m.sub m.firm hq hqP (ne q hqP)
      exact .inl (m.max _ pa ps f fun x hx => mem_plus.mpr (this x hx)).symm
    · exact .inr ⟨m.asc, fun x hx => mem_minus.mpr ⟨m.sub x hx, fun z => h ⟨x, hx, z⟩⟩, m.firm, fun U ua us uf ut => m.max U ua (fun x hx => (mem_minus.mp (us x hx)).1) uf ut⟩
  · rintro (rfl | m)
    · refine ⟨pa, ps, f, fun U ua us uf ut => ?_⟩
      have := firm_closed cl us uf (ut p hp) hpP pv
      exact uniq_lt ua pa fun x => ⟨fun hx => mem_plus.mpr (this x hx), ut x⟩
    · refine ⟨m.asc, fun x hx => (mem_minus.mp (m.sub x hx)).1, m.firm, fun U ua us uf ut => ?_⟩
      by_cases h : ∃ q ∈ U, q ∈ P
      · exfalso
        obtain ⟨q, hq, hqP⟩ := h
        have h2 := firm_closed cl us uf hq hqP (ne q hqP)
        obtain ⟨y, hy, yv⟩ := m.firm.other m.asc v
        exact (mem_minus.mp (m.sub y hy)).2 ((h2 y (ut y hy)).resolve_right yv)
      · exact m.max U ua (fun x hx => mem_minus.mpr ⟨us x hx, fun z => h ⟨x, hx, z⟩⟩) uf ut
theorem pop_dis (pv : ∃ x ∈ P, True) (T : List Int) (e : T = plusV P v) : ¬ MaxF w (minus S P) T := fun m => by
  subst e
  obtain ⟨p, hp, _⟩ := pv
  exact (mem_minus.mp (m.sub p (mem_plus.mpr (.inl hp)))).2 hp
end
/-! ### the walk -/
structure Ss where
  rk : List Int
  pa : List Int
  lo : Int → Nat
  fo : List (List Int)
def Ss.live (w : List SD) (s : Ss) : List Int := (stepsI w).filter fun x => !(s.rk.any (· == x)) || s.pa.any (· == x)
theorem mem_live {w : List SD} {s : Ss} {x : Int} : x ∈ s.live w ↔ x ∈ stepsI w ∧ (x ∈ s.rk → x ∈ s.pa) := by
  unfold Ss.live
  rw [List.mem_filter]
  constructor
  · rintro ⟨h1, h2⟩
    refine ⟨h1, fun h => ?_⟩
    simp only [Bool.or_eq_true, Bool.not_eq_true', List.any_eq_false, List.any_eq_true, beq_iff_eq] at h2
    rcases h2 with h2 | ⟨y, hy, e⟩
    · exact absurd rfl (h2 x h)
    · exact e ▸ hy
  · rintro ⟨h1, h2⟩
    refine ⟨h1, ?_⟩
    simp only [Bool.or_eq_true, Bool.not_eq_true', List.any_eq_false, List.any_eq_true, beq_iff_eq]
    by_cases h : x ∈ s.rk
    · exact .inr ⟨x, h2 h, rfl⟩
    · exact .inl fun y hy e => h (e ▸ hy)
theorem steps_asc (w : List SD) : (stepsI w).Pairwise (· < ·) := rowI_asc _
theorem live_asc (w : List SD) (s : Ss) : (s.live w).Pairwise (· < ·) := asc_filter (steps_asc w)
theorem live_eq {w : List SD} {s t : Ss} (h : ∀ x ∈ stepsI w, (x ∈ s.rk → x ∈ s.pa) ↔ (x ∈ t.rk → x ∈ t.pa)) : s.live w = t.live w :=
  uniq_lt (live_asc w s) (live_asc w t) fun x => by
    rw [mem_live, mem_live]
    exact ⟨fun ⟨a, b⟩ => ⟨a, (h x a).mp b⟩, fun ⟨a, b⟩ => ⟨a, (h x a).mpr b⟩⟩
/-- what holds all along; ch: the steps that are under way -/
structure Gi (w : List SD) (ch : List Int) (s : Ss) : Prop where
  rks : ∀ x ∈ s.rk, x ∈ stepsI w
  rkn : s.rk.Nodup
  pas : s.pa.Sublist s.rk
  chs : ∀ x ∈ ch, x ∈ s.pa
  fin : ∀ x ∈ s.rk, x ∉ ch → ∀ y ∈ stepsI w, adjB w x y = true → y ∈ s.rk
  fnd : s.fo.Nodup
  max : ∀ T, MaxF w (stepsI w) T ↔ T ∈ s.fo ∨ MaxF w (s.live w) T
  dis : ∀ T ∈ s.fo, ¬ MaxF w (s.live w) T
theorem gi0 (w : List SD) : Gi w [] ⟨[], [], fun _ => 0, []⟩ := by
  have e : Ss.live w ⟨[], [], fun _ => 0, []⟩ = stepsI w := uniq_lt (live_asc w _) (steps_asc w) fun x => by rw [mem_live]; simp
  exact ⟨by simp, List.nodup_nil, .slnil, by simp, by simp, List.nodup_nil, fun T => by rw [e]; simp, by simp⟩
/-- of what hangs below u on the path: R; p0, r0: the path and the ranks ahead of u -/
structure Hf (w : List SD) (p0 r0 : List Int) (u : Int) (R : List Int) (l : Nat) : Prop where
  a : ∀ x ∈ u :: R, Cn w (u :: R) u x
  b : ∀ v ∈ R, ∀ x ∈ u :: R, x ≠ v → Cn w (outL (u :: R) v) x u ∨ ∃ y, Cn w (outL (u :: R) v) x y ∧ ∃ z ∈ p0, adjB w y z = true
  c : ∀ x ∈ R, ∃ y, Cn w R x y ∧ ∃ z ∈ p0, adjB w y z = true
  l1 : ∀ x ∈ R, ∀ z ∈ p0, adjB w x z = true → l ≤ r0.idxOf z
  l2 : l < r0.length → ∃ x ∈ u :: R, ∃ z ∈ p0, adjB w x z = true ∧ r0.idxOf z = l
  l3 : l ≤ r0.length
structure Pr (w : List SD) (ch : List Int) (b : Option Int) (u : Int) (s0 : Ss) : Prop where
  gi : Gi w ch s0
  un : u ∉ s0.rk
  us : u ∈ stepsI w
  bp : ∀ p, b = some p → p ∈ s0.pa ∧ adjB w u p = true
structure Mi (w : List SD) (ch : List Int) (b : Option Int) (u : Int) (s0 s : Ss) (E R pr : List Int) : Prop where
  pre : Pr w ch b u s0
  gi : Gi w (u :: ch) s
  rk : s.rk = s0.rk ++ u :: E
  pa : s.pa = s0.pa ++ u :: R
  hf : Hf w s0.pa s0.rk u R (s.lo u)
  los : ∀ x ∈ s0.rk, s.lo x = s0.lo x
  l1u : ∀ z ∈ pr, z ∈ s0.pa → b ≠ some z → s.lo u ≤ s0.rk.idxOf z
  prk : ∀ z ∈ pr, z ∈ s.rk
  re : ∀ x ∈ R, x ∈ E
structure Po (w : List SD) (ch : List Int) (b : Option Int) (u : Int) (s0 s : Ss) (E R : List Int) : Prop where
  gi : Gi w ch s
  rk : s.rk = s0.rk ++ u :: E
  pa : s.pa = s0.pa ++ u :: R
  hf : Hf w s0.pa s0.rk u R (s.lo u)
  los : ∀ x ∈ s0.rk, s.lo x = s0.lo x
  l1u : ∀ z ∈ s0.pa, adjB w u z = true → b ≠ some z → s.lo u ≤ s0.rk.idxOf z
  re : ∀ x ∈ R, x ∈ E
def updL (lo : Int → Nat) (x : Int) (n : Nat) : Int → Nat := fun y => if y = x then n else lo y
theorem updL_same {lo : Int → Nat} {x : Int} {n : Nat} : updL lo x n x = n := by unfold updL; rw [if_pos rfl]
theorem updL_ne {lo : Int → Nat} {x y : Int} {n : Nat} (h : y ≠ x) : updL lo x n y = lo y := by unfold updL; rw [if_neg h]
theorem idx_pre {l m : List Int} {x : Int} (h : x ∈ l) : (l ++ m).idxOf x = l.idxOf x := by rw [List.idxOf_append, if_pos h]
theorem idx_lt {l : List Int} {x : Int} (h : x ∈ l) : l.idxOf x < l.length := List.idxOf_lt_length_of_mem h
theorem idx_ge {l m : List Int} {x : Int} (h : x ∉ l) : l.length ≤ (l ++ m).idxOf x := by rw [List.idxOf_append, if_neg h]; omega
theorem idx_at {l m : List Int} {x : Int} (h : x ∉ l) : (l ++ x :: m).idxOf x = l.length := by rw [List.idxOf_append, if_neg h, List.idxOf_cons_self]; omega
section
variable {w : List SD} {ch : List Int} {b : Option Int} {u z : Int} {s0 s s' : Ss} {E R pr E' R' : List Int}
theorem hf0 (w : List SD) (p0 r0 : List Int) (u : Int) : Hf w p0 r0 u [] r0.length := by
  refine ⟨fun x hx => ?_, by simp, by simp, by simp, fun h => absurd h (Nat.lt_irrefl _), Nat.le_refl _⟩
  have : x = u := by simpa using hx
  exact this ▸ .refl (by simp)
theorem mi_start (h : Pr w ch b u s0) : Mi w ch b u s0 ⟨s0.rk ++ [u], s0.pa ++ [u], updL s0.lo u s0.rk.length, s0.fo⟩ [] [] [] := by
  obtain ⟨g, un, us, bp⟩ := h
  have e : Ss.live w ⟨s0.rk ++ [u], s0.pa ++ [u], updL s0.lo u s0.rk.length, s0.fo⟩ = s0.live w := live_eq fun x hx => by
    show (x ∈ s0.rk ++ [u] → x ∈ s0.pa ++ [u]) ↔ _
    rw [List.mem_append, List.mem_append, List.mem_singleton]
    constructor
    · intro h1 h2
      rcases h1 (.inl h2) with h3 | h3
      · exact h3
      · exact absurd (h3 ▸ h2) un
    · rintro h1 (h2 | h2)
      · exact .inl (h1 h2)
      · exact .inr h2
  refine ⟨⟨g, un, us, bp⟩, ⟨fun x hx => ?_, ?_, g.pas.append (.refl _), fun x hx => ?_, fun x hx hc y hy ha => ?_, g.fnd, fun T => by rw [e]; exact g.max T, fun T hT => by rw [e]; exact g.dis T hT⟩, rfl, rfl, by
    show Hf w s0.pa s0.rk u [] (updL s0.lo u s0.rk.length u)
    rw [updL_same]; exact hf0 w _ _ u, fun x hx => updL_ne fun z => un (z ▸ hx), by simp, by simp, by simp⟩
  · rcases List.mem_append.mp hx with h | h
    · exact g.rks x h
    · rw [List.mem_singleton.mp h]; exact us
  · show (s0.rk ++ [u]).Nodup
    rw [List.nodup_append]
    exact ⟨g.rkn, by simp, fun x hx y hy q => by
      rw [List.mem_singleton] at hy
      subst hy
      exact un (q ▸ hx)⟩
  · show x ∈ s0.pa ++ [u]
    rcases List.mem_cons.mp hx with h | h
    · rw [h]; simp
    · exact List.mem_append_left _ (g.chs x h)
  · have hx : x ∈ s0.rk ++ [u] := hx
    rcases List.mem_append.mp hx with h | h
    · exact List.mem_append_left _ (g.fin x h (fun z => hc (List.mem_cons_of_mem _ z)) y hy ha)
    · exact absurd (by rw [List.mem_singleton.mp h]; exact List.mem_cons_self) hc
theorem mi_skip (h : Mi w ch b u s0 s E R pr) (hz : z ∈ s.rk) (hb : b = some z) : Mi w ch b u s0 s E R (pr ++ [z]) :=
  ⟨h.pre, h.gi, h.rk, h.pa, h.hf, h.los, fun y hy hp hn => by
    rcases List.mem_append.mp hy with q | q
    · exact h.l1u y q hp hn
    · rw [List.mem_singleton.mp q] at hn
      exact absurd hb hn, fun y hy => by
    rcases List.mem_append.mp hy with q | q
    · exact h.prk y q
    · rw [List.mem_singleton.mp q]; exact hz, h.re⟩
/-- a ranked neighbour of u whose rank is less is under way -/
theorem mi_old (h : Mi w ch b u s0 s E R pr) (hz : z ∈ s0.rk) (ha : adjB w u z = true) : z ∈ s0.pa := by
  by_cases q : z ∈ ch
  · exact h.pre.gi.chs z q
  · exact absurd (h.pre.gi.fin z hz q u h.pre.us (adj_symm ha)) h.pre.un
theorem gi_lo {ch : List Int} (g : Gi w ch s) (lo : Int → Nat) : Gi w ch { s with lo := lo } := by
  have e : Ss.live w { s with lo := lo } = s.live w := rfl
  exact ⟨g.rks, g.rkn, g.pas, g.chs, g.fin, g.fnd, g.max, g.dis⟩
theorem mi_back (h : Mi w ch b u s0 s E R pr) (hz : z ∈ s.rk) (ha : adjB w u z = true) (hb : b ≠ some z) : Mi w ch b u s0 { s with lo := updL s.lo u (min (s.lo u) (s.rk.idxOf z)) } E R (pr ++ [z]) := by
  have hf := h.hf
  have old : z ∈ s0.rk → s.rk.idxOf z = s0.rk.idxOf z := fun q => by rw [h.rk]; exact idx_pre q
  have new : z ∉ s0.rk → s0.rk.length ≤ s.rk.idxOf z := fun q => by rw [h.rk]; exact idx_ge q
  refine ⟨h.pre, gi_lo h.gi _, h.rk, h.pa, ?_, fun x hx => ?_, fun y hy hp hn => ?_, fun y hy => ?_, h.re⟩
  · show Hf w s0.pa s0.rk u R (updL s.lo u (min (s.lo u) (s.rk.idxOf z)) u)
    rw [updL_same]
    refine ⟨hf.a, hf.b, hf.c, fun x hx y hy q => Nat.le_trans (Nat.min_le_left _ _) (hf.l1 x hx y hy q), fun q => ?_, Nat.le_trans (Nat.min_le_left _ _) hf.l3⟩
    rcases Nat.le_total (s.lo u) (s.rk.idxOf z) with c | c
    · rw [Nat.min_eq_left c] at q ⊢
      exact hf.l2 q
    · rw [Nat.min_eq_right c] at q ⊢
      have zo : z ∈ s0.rk := Classical.byContradiction fun n => by have := new n; omega
      exact ⟨u, by simp, z, mi_old h zo ha, ha, (old zo).symm⟩
  · show updL s.lo u _ x = _
    rw [updL_ne (fun e : x = u => h.pre.un (e ▸ hx))]
    exact h.los x hx
  · show updL s.lo u _ u ≤ _
    rw [updL_same]
    rcases List.mem_append.mp hy with q | q
    · exact Nat.le_trans (Nat.min_le_left _ _) (h.l1u y q hp hn)
    · rw [List.mem_singleton.mp q] at hp ⊢
      rw [← old (h.pre.gi.pas.subset hp)]
      exact Nat.min_le_right _ _
  · rcases List.mem_append.mp hy with q | q
    · exact h.prk y q
    · rw [List.mem_singleton.mp q]; exact hz
theorem mi_upath (h : Mi w ch b u s0 s E R pr) : u ∈ s.pa := by rw [h.pa]; simp
theorem mi_pre (h : Mi w ch b u s0 s E R pr) (hz : z ∉ s.rk) (zs : z ∈ stepsI w) (ha : adjB w u z = true) : Pr w (u :: ch) (some u) z s :=
  ⟨h.gi, hz, zs, fun p hp => by cases hp; exact ⟨mi_upath h, adj_symm ha⟩⟩
/-! the child z of u comes back -/
theorem mi_R (h : Mi w ch b u s0 s E R pr) {x : Int} (hx : x ∈ R) : x ∉ s0.rk ∧ x ∈ s.rk ∧ x ∉ u :: ch ∧ x ∈ s.pa := by
  have nr : (s0.rk ++ u :: E).Nodup := by rw [← h.rk]; exact h.gi.rkn
  obtain ⟨_, n2, n3⟩ := List.nodup_append.mp nr
  have n1 : x ∉ s0.rk := fun q => n3 x q x (List.mem_cons_of_mem _ (h.re x hx)) rfl
  refine ⟨n1, by rw [h.rk]; exact List.mem_append_right _ (List.mem_cons_of_mem _ (h.re x hx)), fun q => ?_, by rw [h.pa]; exact List.mem_append_right _ (List.mem_cons_of_mem _ hx)⟩
  rcases List.mem_cons.mp q with q | q
  · exact (List.nodup_cons.mp n2).1 (q ▸ h.re x hx)
  · exact n1 (h.pre.gi.pas.subset (h.pre.gi.chs x q))
theorem mi_ru (h : Mi w ch b u s0 s E R pr) : s.rk.idxOf u = s0.rk.length := by rw [h.rk]; exact idx_at h.pre.un
theorem mi_old_idx (h : Mi w ch b u s0 s E R pr) {y : Int} (hy : y ∈ s0.pa) : s.rk.idxOf y = s0.rk.idxOf y ∧ s0.rk.idxOf y < s0.rk.length ∧ y ≠ u ∧ y ∈ s.pa := by
  have := h.pre.gi.pas.subset hy
  exact ⟨by rw [h.rk]; exact idx_pre this, idx_lt this, fun e => h.pre.un (e ▸ this), by rw [h.pa]; exact List.mem_append_left _ hy⟩
section
variable (h : Mi w ch b u s0 s E R pr) (p : Po w (u :: ch) (some u) z s s' E' R')
include h p
theorem po_new {x : Int} (hx : x ∈ z :: R') : x ∉ s.rk ∧ x ∈ s'.rk ∧ x ∉ s.pa ∧ x ∉ u :: ch ∧ x ∈ stepsI w := by
  have nr : (s.rk ++ z :: E').Nodup := by rw [← p.rk]; exact p.gi.rkn
  have hxe : x ∈ z :: E' := by
    rcases List.mem_cons.mp hx with q | q
    · rw [q]; simp
    · exact List.mem_cons_of_mem _ (p.re x q)
  have n1 : x ∉ s.rk := fun q => (List.nodup_append.mp nr).2.2 x q x hxe rfl
  have hr : x ∈ s'.rk := by rw [p.rk]; exact List.mem_append_right _ hxe
  exact ⟨n1, hr, fun q => n1 (h.gi.pas.subset q), fun q => n1 (h.gi.pas.subset (h.gi.chs x q)), p.gi.rks x hr⟩
theorem po_nd : (z :: R').Nodup := by
  have nd : (s.pa ++ z :: R').Nodup := by rw [← p.pa]; exact p.gi.pas.nodup p.gi.rkn
  exact (List.nodup_append.mp nd).2.1
theorem po_nbr {x y : Int} (hx : x ∈ z :: R') (hy : y ∈ s.pa) (ha : adjB w x y = true) : y ∈ s0.pa ∨ y = u := by
  rw [h.pa] at hy
  rcases List.mem_append.mp hy with q | q
  · exact .inl q
  · rcases List.mem_cons.mp q with q | q
    · exact .inr q
    · exfalso
      obtain ⟨_, r1, r2, _⟩ := mi_R h q
      obtain ⟨n1, _, _, _, n5⟩ := po_new h p hx
      exact n1 (h.gi.fin y r1 r2 x n5 (adj_symm ha))
theorem po_lou : s'.lo u = s.lo u := p.los u (h.gi.pas.subset (mi_upath h))
theorem po_rk : s'.rk = s0.rk ++ u :: (E ++ z :: E') := by rw [p.rk, h.rk]; simp
theorem po_low {x y : Int} (hx : x ∈ z :: R') (hy : y ∈ s0.pa) (ha : adjB w x y = true) : s'.lo z ≤ s0.rk.idxOf y := by
  obtain ⟨e, _, nu, hp⟩ := mi_old_idx h hy
  rw [← e]
  rcases List.mem_cons.mp hx with q | q
  · subst q
    exact p.l1u y hp ha (fun q => nu (Option.some.inj q).symm)
  · exact p.hf.l1 x q y hp ha
theorem po_z : z ∉ s0.pa := fun q => (po_new h p (x := z) (by simp)).2.2.1 (mi_old_idx h q).2.2.2
theorem po_los (x : Int) (hx : x ∈ s0.rk) (n : Nat) : updL s'.lo u n x = s0.lo x := by
  rw [updL_ne (fun e : x = u => h.pre.un (e ▸ hx)), p.los x (by rw [h.rk]; exact List.mem_append_left _ hx)]
  exact h.los x hx
theorem po_prk (y : Int) (hy : y ∈ pr ++ [z]) : y ∈ s'.rk := by
  rcases List.mem_append.mp hy with q | q
  · rw [p.rk]; exact List.mem_append_left _ (h.prk y q)
  · rw [List.mem_singleton.mp q]; exact (po_new h p (by simp)).2.1
section
variable (c : s0.rk.length ≤ s'.lo z)
include c
theorem pop_nbr {x y : Int} (hx : x ∈ z :: R') (hy : y ∈ s.pa) (ha : adjB w x y = true) : y = u := by
  rcases po_nbr h p hx hy ha with q | q
  · have := po_low h p hx q ha
    have := (mi_old_idx h q).2.1
    omega
  · exact q
theorem pop_closed : ∀ x ∈ z :: R', ∀ y ∈ s'.live w, adjB w x y = true → y ∈ z :: R' ∨ y = u := by
  intro x hx y hy ha
  obtain ⟨ys, yl⟩ := mem_live.mp hy
  obtain ⟨_, n2, _, n4, _⟩ := po_new h p hx
  have := yl (p.gi.fin x n2 n4 y ys ha)
  rw [p.pa] at this
  rcases List.mem_append.mp this with q | q
  · exact .inr (pop_nbr h p c hx q ha)
  · exact .inl q
theorem pop_firm (auz : adjB w u z = true) : Firm w (plusV (z :: R') u) := by
  have hf := p.hf
  have uQ : u ∉ z :: R' := fun q => (po_new h p q).2.2.1 (mi_upath h)
  have up : ∀ x ∈ z :: R', x ∈ plusV (z :: R') u := fun x hx => mem_plus.mpr (.inl hx)
  have uu : u ∈ plusV (z :: R') u := mem_plus.mpr (.inr rfl)
  have nd := po_nd h p
  refine ⟨by rw [plus_len, List.length_cons]; omega, ?_, fun t ht => ?_⟩
  · have key : ∀ x ∈ plusV (z :: R') u, Cn w (plusV (z :: R') u) u x := fun x hx => by
      rcases mem_plus.mp hx with q | q
      · exact (Cn.step (.refl uu) (up z (by simp)) auz).trans ((hf.a x q).mono up)
      · rw [q]; exact .refl uu
    exact fun x hx y hy => (key x hx).symm.trans (key y hy)
  · by_cases e : t = u
    · subst e
      have inn : ∀ x ∈ z :: R', x ∈ outL (plusV (z :: R') t) t := fun x hx => mem_out.mpr ⟨up x hx, fun e => uQ (e ▸ hx)⟩
      have key : ∀ x ∈ outL (plusV (z :: R') t) t, Cn w (outL (plusV (z :: R') t) t) z x := fun x hx => by
        obtain ⟨h1, h2⟩ := mem_out.mp hx
        exact (hf.a x ((mem_plus.mp h1).resolve_right h2)).mono inn
      exact fun x hx y hy => (key x hx).symm.trans (key y hy)
    · have tQ := (mem_plus.mp ht).resolve_right e
      have uo : u ∈ outL (plusV (z :: R') u) t := mem_out.mpr ⟨uu, fun q => e q.symm⟩
      have inn : ∀ x ∈ outL (z :: R') t, x ∈ outL (plusV (z :: R') u) t := fun x hx => by
        obtain ⟨h1, h2⟩ := mem_out.mp hx
        exact mem_out.mpr ⟨up x h1, h2⟩
      have fin : ∀ x y, Cn w (outL (z :: R') t) x y → (∃ zz ∈ s.pa, adjB w y zz = true) → Cn w (outL (plusV (z :: R') u) t) x u := fun x y hc ⟨zz, hz, ha⟩ => by
        have := pop_nbr h p c (mem_out.mp hc.right).1 hz ha
        subst this
        exact .step (hc.mono inn) uo ha
      have key : ∀ x ∈ outL (plusV (z :: R') u) t, Cn w (outL (plusV (z :: R') u) t) x u := fun x hx => by
        obtain ⟨h1, h2⟩ := mem_out.mp hx
        rcases mem_plus.mp h1 with q | q
        · rcases List.mem_cons.mp tQ with q2 | q2
          · have xR : x ∈ R' := (List.mem_cons.mp q).resolve_left (fun e => h2 (e.trans q2.symm))
            obtain ⟨y, hy, hz⟩ := hf.c x xR
            refine fin x y (hy.mono fun v hv => mem_out.mpr ⟨List.mem_cons_of_mem _ hv, fun e => ?_⟩) hz
            exact (List.nodup_cons.mp nd).1 (by rw [← q2, ← e]; exact hv)
          · rcases hf.b t q2 x q h2 with hc | ⟨y, hc, hz⟩
            · exact .step (hc.mono inn) uo (adj_symm auz)
            · exact fin x y hc hz
        · rw [q]; exact .refl uo
      exact fun x hx y hy => (key x hx).trans (key y hy).symm
theorem mi_pop (auz : adjB w u z = true) : Mi w ch b u s0 ⟨s'.rk, s.pa, updL s'.lo u (min (s'.lo u) (s'.lo z)), s'.fo ++ [plusV (z :: R') u]⟩ (E ++ z :: E') R (pr ++ [z]) := by
  have f := pop_firm h p c auz
  have cl := pop_closed h p c
  have uQ : u ∉ z :: R' := fun q => (po_new h p q).2.2.1 (mi_upath h)
  have ur : u ∈ s'.rk := by rw [p.rk]; exact List.mem_append_left _ (h.gi.pas.subset (mi_upath h))
  have ul : u ∈ s'.live w := mem_live.mpr ⟨h.pre.us, fun _ => by rw [p.pa]; exact List.mem_append_left _ (mi_upath h)⟩
  have Ql : ∀ x ∈ z :: R', x ∈ s'.live w := fun x hx => mem_live.mpr ⟨(po_new h p hx).2.2.2.2, fun _ => by rw [p.pa]; exact List.mem_append_right _ hx⟩
  have it := pop_iff ul Ql uQ (po_nd h p) cl f
  have le : Ss.live w ⟨s'.rk, s.pa, updL s'.lo u (min (s'.lo u) (s'.lo z)), s'.fo ++ [plusV (z :: R') u]⟩ = minus (s'.live w) (z :: R') := uniq_lt (live_asc w _) (minus_asc (live_asc w _)) fun x => by
    rw [mem_minus, mem_live, mem_live]
    show x ∈ stepsI w ∧ (x ∈ s'.rk → x ∈ s.pa) ↔ _
    constructor
    · rintro ⟨h1, h2⟩
      exact ⟨⟨h1, fun q => by rw [p.pa]; exact List.mem_append_left _ (h2 q)⟩, fun q => (po_new h p q).2.2.1 (h2 (po_new h p q).2.1)⟩
    · rintro ⟨⟨h1, h2⟩, h3⟩
      refine ⟨h1, fun q => ?_⟩
      have := h2 q
      rw [p.pa] at this
      exact (List.mem_append.mp this).resolve_right h3
  have mn : min (s'.lo u) (s'.lo z) = s.lo u := by
    rw [po_lou h p]
    have := h.hf.l3
    omega
  refine ⟨h.pre, ⟨p.gi.rks, p.gi.rkn, h.gi.pas.trans (by show s.rk.Sublist s'.rk; rw [p.rk]; exact List.sublist_append_left _ _), h.gi.chs, p.gi.fin, ?_, fun T => ?_, fun T hT => ?_⟩, (show s'.rk = _ from po_rk h p), h.pa, ?_, fun x hx => po_los h p x hx _, fun y hy hp hn => ?_, fun y hy => (show y ∈ s'.rk from po_prk h p y hy), fun x hx => List.mem_append_left _ (h.re x hx)⟩
  · show (s'.fo ++ [plusV (z :: R') u]).Nodup
    rw [List.nodup_append]
    exact ⟨p.gi.fnd, by simp, fun x hx y hy q => by
      rw [List.mem_singleton] at hy
      subst hy
      subst q
      exact p.gi.dis _ hx ((it _).mpr (.inl rfl))⟩
  · rw [le, p.gi.max T, it T]
    show _ ↔ T ∈ s'.fo ++ [plusV (z :: R') u] ∨ _
    rw [List.mem_append, List.mem_singleton, or_assoc]
  · rw [le]
    rcases List.mem_append.mp hT with q | q
    · exact fun m => p.gi.dis T q ((it T).mpr (.inr m))
    · exact pop_dis ⟨z, by simp, trivial⟩ T (List.mem_singleton.mp q)
  · show Hf w s0.pa s0.rk u R (updL s'.lo u _ u)
    rw [updL_same, mn]
    exact h.hf
  · show updL s'.lo u _ u ≤ _
    rw [updL_same, mn]
    rcases List.mem_append.mp hy with q | q
    · exact h.l1u y q hp hn
    · rw [List.mem_singleton.mp q] at hp
      exact absurd hp (po_z h p)
end
theorem mi_keep (c : s'.lo z < s0.rk.length) (auz : adjB w u z = true) : Mi w ch b u s0 { s' with lo := updL s'.lo u (min (s'.lo u) (s'.lo z)) } (E ++ z :: E') (R ++ z :: R') (pr ++ [z]) := by
  have hf := h.hf
  have pf := p.hf
  have eu := po_lou h p
  have nd := po_nd h p
  obtain ⟨x0, hx0, z0, hz0, ha0, hi0⟩ : ∃ x ∈ z :: R', ∃ y ∈ s0.pa, adjB w x y = true ∧ s0.rk.idxOf y = s'.lo z := by
    obtain ⟨x, hx, y, hy, ha, hi⟩ := pf.l2 (by rw [h.rk, List.length_append]; omega)
    rcases po_nbr h p hx hy ha with q | q
    · exact ⟨x, hx, y, q, ha, by rw [← (mi_old_idx h q).1]; exact hi⟩
    · rw [q, mi_ru h] at hi
      omega
  have iQ : ∀ x ∈ z :: R', x ∈ R ++ z :: R' := fun x hx => List.mem_append_right _ hx
  have iR : ∀ x ∈ R, x ∈ R ++ z :: R' := fun x hx => List.mem_append_left _ hx
  have jQ : ∀ x ∈ z :: R', x ∈ u :: (R ++ z :: R') := fun x hx => List.mem_cons_of_mem _ (iQ x hx)
  have jR : ∀ x ∈ u :: R, x ∈ u :: (R ++ z :: R') := fun x hx => by
    rcases List.mem_cons.mp hx with q | q
    · rw [q]; simp
    · exact List.mem_cons_of_mem _ (iR x q)
  have all : ∀ x ∈ u :: (R ++ z :: R'), x ∈ u :: R ∨ x ∈ z :: R' := fun x hx => by
    rcases List.mem_cons.mp hx with q | q
    · exact .inl (by rw [q]; simp)
    · rcases List.mem_append.mp q with q | q
      · exact .inl (List.mem_cons_of_mem _ q)
      · exact .inr q
  have inU : ∀ x ∈ u :: R, x ∈ s.pa := fun x hx => by rw [h.pa]; exact List.mem_append_right _ hx
  have off : ∀ x ∈ u :: R, ∀ y ∈ z :: R', x ≠ y := fun x hx y hy e => (po_new h p hy).2.2.1 (e ▸ inU x hx)
  have uR : u ∉ R := fun q => (mi_R h q).2.2.1 (by simp)
  have azu := adj_symm auz
  refine ⟨h.pre, gi_lo p.gi _, (show s'.rk = _ from po_rk h p), by show s'.pa = _; rw [p.pa, h.pa]; simp, ?_, fun x hx => po_los h p x hx _, fun y hy hp hn => ?_, fun y hy => (show y ∈ s'.rk from po_prk h p y hy), fun x hx => ?_⟩
  · show Hf w s0.pa s0.rk u (R ++ z :: R') (updL s'.lo u _ u)
    rw [updL_same, eu]
    refine ⟨fun x hx => ?_, fun v hv x hx nx => ?_, fun x hx => ?_, fun x hx y hy ha => ?_, fun q => ?_, Nat.le_trans (Nat.min_le_left _ _) hf.l3⟩
    · rcases all x hx with q | q
      · exact (hf.a x q).mono jR
      · exact (Cn.step (.refl (by simp)) (jQ z (by simp)) auz).trans ((pf.a x q).mono jQ)
    · rcases List.mem_append.mp hv with hvR | hvQ
      · have uo : u ∈ outL (u :: (R ++ z :: R')) v := mem_out.mpr ⟨by simp, fun e => uR (e ▸ hvR)⟩
        rcases all x hx with q | q
        · have mo : ∀ y ∈ outL (u :: R) v, y ∈ outL (u :: (R ++ z :: R')) v := fun y hy => mem_out.mpr ⟨jR y (mem_out.mp hy).1, (mem_out.mp hy).2⟩
          rcases hf.b v hvR x q nx with hc | ⟨y, hc, hz⟩
          · exact .inl (hc.mono mo)
          · exact .inr ⟨y, hc.mono mo, hz⟩
        · have mo : ∀ y ∈ z :: R', y ∈ outL (u :: (R ++ z :: R')) v := fun y hy => mem_out.mpr ⟨jQ y hy, fun e => off v (List.mem_cons_of_mem _ hvR) y hy e.symm⟩
          exact .inl (.step ((pf.a x q).symm.mono mo) uo azu)
      · have uo : u ∈ outL (u :: (R ++ z :: R')) v := mem_out.mpr ⟨by simp, fun e => off u (by simp) v hvQ e⟩
        rcases all x hx with q | q
        · exact .inl ((hf.a x q).symm.mono fun y hy => mem_out.mpr ⟨jR y hy, fun e => off y hy v hvQ e⟩)
        · have mo : ∀ y ∈ outL (z :: R') v, y ∈ outL (u :: (R ++ z :: R')) v := fun y hy => mem_out.mpr ⟨jQ y (mem_out.mp hy).1, (mem_out.mp hy).2⟩
          have fin : ∀ y, Cn w (outL (z :: R') v) x y → (∃ zz ∈ s.pa, adjB w y zz = true) → Cn w (outL (u :: (R ++ z :: R')) v) x u ∨ ∃ y, Cn w (outL (u :: (R ++ z :: R')) v) x y ∧ ∃ z ∈ s0.pa, adjB w y z = true := fun y hc ⟨zz, hz, ha⟩ => by
            rcases po_nbr h p (mem_out.mp hc.right).1 hz ha with q | q
            · exact .inr ⟨y, hc.mono mo, zz, q, ha⟩
            · subst q
              exact .inl (.step (hc.mono mo) uo ha)
          rcases List.mem_cons.mp hvQ with q2 | q2
          · have xR : x ∈ R' := (List.mem_cons.mp q).resolve_left (fun e => nx (e.trans q2.symm))
            obtain ⟨y, hy, hz⟩ := pf.c x xR
            refine fin y (hy.mono fun t ht => mem_out.mpr ⟨List.mem_cons_of_mem _ ht, fun e => ?_⟩) hz
            exact (List.nodup_cons.mp nd).1 (by rw [← q2, ← e]; exact ht)
          · rcases pf.b v q2 x q nx with hc | ⟨y, hc, hz⟩
            · exact .inl (.step (hc.mono mo) uo azu)
            · exact fin y hc hz
    · rcases List.mem_append.mp hx with q | q
      · obtain ⟨y, hc, hz⟩ := hf.c x q
        exact ⟨y, hc.mono iR, hz⟩
      · exact ⟨x0, ((pf.a x q).symm.trans (pf.a x0 hx0)).mono iQ, z0, hz0, ha0⟩
    · rcases List.mem_append.mp hx with q | q
      · exact Nat.le_trans (Nat.min_le_left _ _) (hf.l1 x q y hy ha)
      · exact Nat.le_trans (Nat.min_le_right _ _) (po_low h p q hy ha)
    · rcases Nat.le_total (s.lo u) (s'.lo z) with d | d
      · rw [Nat.min_eq_left d] at q ⊢
        obtain ⟨x, hx, y, hy⟩ := hf.l2 q
        exact ⟨x, jR x hx, y, hy⟩
      · rw [Nat.min_eq_right d]
        exact ⟨x0, jQ x0 hx0, z0, hz0, ha0, hi0⟩
  · show updL s'.lo u _ u ≤ _
    rw [updL_same, eu]
    rcases List.mem_append.mp hy with q | q
    · exact Nat.le_trans (Nat.min_le_left _ _) (h.l1u y q hp hn)
    · rw [List.mem_singleton.mp q] at hp
      exact absurd hp (po_z h p)
  · rcases List.mem_append.mp hx with q | q
    · exact List.mem_append_left _ (h.re x q)
    · refine List.mem_append_right _ ?_
      rcases List.mem_cons.mp q with q | q
      · rw [q]; simp
      · exact List.mem_cons_of_mem _ (p.re x q)
end
theorem mi_end (h : Mi w ch b u s0 s E R pr) (all : ∀ z ∈ stepsI w, adjB w u z = true → z ∈ pr) : Po w ch b u s0 s E R := by
  refine ⟨⟨h.gi.rks, h.gi.rkn, h.gi.pas, fun x hx => h.gi.chs x (List.mem_cons_of_mem _ hx), fun x hx hc y hy ha => ?_, h.gi.fnd, h.gi.max, h.gi.dis⟩, h.rk, h.pa, h.hf, h.los, fun z hz ha hn => ?_, h.re⟩
  · by_cases e : x = u
    · subst e
      exact h.prk y (all y hy ha)
    · exact h.gi.fin x hx (fun q => by
        rcases List.mem_cons.mp q with q | q
        · exact e q
        · exact hc q) y hy ha
  · exact h.l1u z (all z (h.pre.gi.rks z (h.pre.gi.pas.subset hz)) ha) hz hn
/-! ### all steps -/
structure Bl (w : List SD) (s : Ss) : Prop where
  gi : Gi w [] s
  na : ∀ x ∈ s.pa, ∀ y ∈ s.pa, x ≠ y → adjB w x y = false
theorem bl0 (w : List SD) : Bl w ⟨[], [], fun _ => 0, []⟩ := ⟨gi0 w, by simp⟩
theorem bl_pre (h : Bl w s) (un : u ∉ s.rk) (us : u ∈ stepsI w) : Pr w [] none u s := ⟨h.gi, un, us, fun _ q => by cases q⟩
theorem bl_next (h : Bl w s) (un : u ∉ s.rk) (us : u ∈ stepsI w) (p : Po w [] none u s s' E R) : Bl w s' := by
  have no : ∀ y ∈ s.pa, ∀ x ∈ stepsI w, x ∉ s.rk → adjB w x y = false := fun y hy x xs hx => by
    cases q : adjB w x y with
    | false => rfl
    | true => exact absurd (h.gi.fin y (h.gi.pas.subset hy) (by simp) x xs (adj_symm q)) hx
  have nr : (s.rk ++ u :: E).Nodup := by rw [← p.rk]; exact p.gi.rkn
  have R0 : R = [] := by
    cases R with
    | nil => rfl
    | cons x R =>
      exfalso
      obtain ⟨y, hc, z, hz, ha⟩ := p.hf.c x (by simp)
      have yE := p.re y hc.right
      have yn : y ∉ s.rk := fun q => (List.nodup_append.mp nr).2.2 y q y (List.mem_cons_of_mem _ yE) rfl
      have ys : y ∈ stepsI w := p.gi.rks y (by rw [p.rk]; exact List.mem_append_right _ (List.mem_cons_of_mem _ yE))
      rw [no z hz y ys yn] at ha
      cases ha
  refine ⟨p.gi, fun x hx y hy ne => ?_⟩
  rw [p.pa, R0] at hx hy
  rcases List.mem_append.mp hx with qx | qx
  · rcases List.mem_append.mp hy with qy | qy
    · exact h.na x qx y qy ne
    · rw [List.mem_singleton.mp qy]
      cases q : adjB w x u with
      | false => rfl
      | true =>
        have := no x qx u us un
        rw [adj_symm q] at this
        cases this
  · rw [List.mem_singleton.mp qx]
    rcases List.mem_append.mp hy with qy | qy
    · exact no y qy u us un
    · exact absurd (by rw [List.mem_singleton.mp qx, List.mem_singleton.mp qy]) ne
theorem bl_end (h : Bl w s) (all : ∀ x ∈ stepsI w, x ∈ s.rk) (T : List Int) : T ∈ s.fo ↔ MaxF w (stepsI w) T := by
  rw [h.gi.max T]
  refine ⟨.inl, fun q => q.resolve_right fun m => ?_⟩
  obtain ⟨x, hx, _⟩ := m.firm.other m.asc 0
  obtain ⟨y, hy, ne⟩ := m.firm.other m.asc x
  have inp : ∀ v ∈ T, v ∈ s.pa := fun v hv => by
    obtain ⟨h1, h2⟩ := mem_live.mp (m.sub v hv)
    exact h2 (all v h1)
  have key : ∀ v, Cn w T x v → v = x := fun v hv => by
    induction hv with
    | refl _ => rfl
    | @step b c h1 h2 h3 ih =>
      subst ih
      by_cases e : b = c
      · exact e.symm
      · rw [h.na b (inp b hx) c (inp c h2) e] at h3
        cases h3
  exact ne (key y (m.firm.hang x hx y hy))
end
end PP

set_option Elab.async false
set_option linter.all false
set_option maxRecDepth 100000
set_option maxHeartbeats 2000000
namespace PP
open PySem PySem.Spec PyProof.Rows L2
/-! ### the steps, givers first: how many inputs are yet missing -/
def kFirst0 : KF := fun ds Q => ∃ w : List SD, ds = [webD w] ∧ Wr 100 w ∧ ∀ l, Fin' w l → readyL w l = [] → Q (.list (l.map PyData.int))
theorem kFirst0_mono : MonoC kFirst0 := fun ds Q Q' f ⟨w, h1, h2, q⟩ => ⟨w, h1, h2, fun l a b => f _ (q l a b)⟩
def cnt (w : List SD) (P : List Int) (b : Nat) : Nat := ((inpD w (b : Int)).filter fun a => !(P.any (· == a))).length
theorem inp_at {w : List SD} {b : Nat} (h : b < w.length) : inpD w (b : Int) = w[b].2 := by
  unfold inpD; rw [Int.toNat_natCast, getD_at h]
theorem cnt_nil {w : List SD} {b : Nat} : cnt w [] b = (inpD w (b : Int)).length := by
  unfold cnt
  congr 1
  exact List.filter_eq_self.mpr fun a _ => rfl
theorem cnt_zero {w : List SD} {P : List Int} {b : Nat} : cnt w P b = 0 ↔ ∀ a ∈ inpD w (b : Int), a ∈ P := by
  unfold cnt
  rw [List.length_eq_zero_iff, List.filter_eq_nil_iff]
  constructor
  · intro h a ha
    have := h a ha
    simpa using this
  · intro h a ha
    have := h a ha
    simpa using this
/-- one more was done -/
theorem cnt_snoc {w : List SD} {P : List Int} {g : Int} {b : Nat} (hg : g ∉ P) : cnt w P b = cnt w (P ++ [g]) b + (inpD w (b : Int)).count g := by
  unfold cnt
  induction inpD w (b : Int) with
  | nil => rfl
  | cons a l ih =>
    by_cases hP : a ∈ P
    · have e1 : P.any (· == a) = true := any_is.mpr hP
      have e2 : (P ++ [g]).any (· == a) = true := any_is.mpr (List.mem_append_left _ hP)
      have ne : a ≠ g := fun z => hg (z ▸ hP)
      rw [List.filter_cons_of_neg (by rw [e1]; decide), List.filter_cons_of_neg (by rw [e2]; decide), List.count_cons_of_ne ne]
      exact ih
    · have e1 : P.any (· == a) = false := by rw [← Bool.not_eq_true, any_is]; exact hP
      by_cases hgq : a = g
      · subst hgq
        have e2 : (P ++ [a]).any (· == a) = true := any_is.mpr (by simp)
        rw [List.filter_cons_of_pos (by rw [e1]; rfl), List.filter_cons_of_neg (by rw [e2]; decide), List.count_cons_self, List.length_cons, ih]
        omega
      · have e2 : (P ++ [g]).any (· == a) = false := by
          rw [← Bool.not_eq_true, any_is]
          intro z
          rcases List.mem_append.mp z with z | z
          · exact hP z
          · exact hgq (List.mem_singleton.mp z)
        rw [List.filter_cons_of_pos (by rw [e1]; rfl), List.filter_cons_of_pos (by rw [e2]; rfl), List.count_cons_of_ne hgq, List.length_cons, List.length_cons, ih]
        omega
theorem count_tkAt (t b : Nat) (ins : List Int) (g : Nat) : (tkAt t ins g).count (b : Int) = if b = t then ins.count (g : Int) else 0 := by
  unfold tkAt
  have key : ∀ l : List Int, (l.map fun _ => (t : Int)).count (b : Int) = if b = t then l.length else 0 := by
    intro l
    induction l with
    | nil => simp
    | cons a l ih =>
      rw [List.map_cons]
      by_cases c : b = t
      · subst c
        rw [if_pos rfl] at ih ⊢
        rw [List.count_cons_self, ih, List.length_cons]
      · rw [if_neg c] at ih ⊢
        rw [List.count_cons_of_ne (by omega), ih]
  rw [key]
  congr 1
  rw [List.count_eq_length_filter]
theorem count_tkTo (w : List SD) (g b : Nat) : ∀ t, t ≤ w.length → (tkTo w t g).count (b : Int) = if b < t then (inpD w (b : Int)).count (g : Int) else 0
  | 0, _ => by simp [tkTo]
  | t + 1, h => by
    unfold tkTo
    rw [List.count_append, count_tkTo w g b t (by omega), List.getElem?_eq_getElem (by omega)]
    show _ + (tkAt t w[t].2 g).count (b : Int) = _
    rw [count_tkAt]
    by_cases c1 : b < t
    · rw [if_pos c1, if_neg (by omega), if_pos (by omega)]; omega
    · by_cases c2 : b = t
      · subst c2
        rw [if_neg c1, if_pos rfl, if_pos (by omega), inp_at (by omega)]; omega
      · rw [if_neg c1, if_neg c2, if_neg (by omega)]
theorem count_tk {w : List SD} {g b : Nat} (hb : b < w.length) : (tk w g).count (b : Int) = (inpD w (b : Int)).count (g : Int) := by
  unfold tk
  rw [count_tkTo w g b _ (Nat.le_refl _), if_pos hb]
/-- P done, and of the takers of the next one those of pre -/
structure KI (w : List SD) (P : List Int) (pre row M : List Int) : Prop where
  len : M.length = w.length
  val : ∀ b : Nat, b < w.length → M.getD b 0 + (pre.count (b : Int) : Int) = (cnt w P b : Int)
  rw_ : ∀ b : Nat, b < w.length → ((b : Int) ∈ row ↔ M.getD b 0 = 0)
  fin : Fin' w row
theorem KI.begin (w : List SD) : KI w [] [] ((rowI (List.range w.length)).filter fun k => (inpD w k).isEmpty) (w.map fun s => (s.2.length : Int)) := by
  have g : ∀ b : Nat, b < w.length → (w.map fun s => (s.2.length : Int)).getD b 0 = ((inpD w (b : Int)).length : Int) := fun b hb => by
    rw [getD_at (by simpa using hb), List.getElem_map, inp_at hb]
  refine ⟨by simp, fun b hb => ?_, fun b hb => ?_, ?_, fun a ha => ?_, fun p k q e a ha => ?_⟩
  · rw [g b hb, cnt_nil]; simp
  · rw [g b hb, List.mem_filter, mem_rowI, List.isEmpty_iff]
    constructor
    · rintro ⟨_, h⟩; rw [h]; rfl
    · intro h
      exact ⟨⟨b, rfl, hb⟩, List.length_eq_zero_iff.mp (by omega)⟩
  · exact (rowI_nodup _).filter _
  · exact mem_rowI.mp (List.mem_filter.mp ha).1
  · have : k ∈ (rowI (List.range w.length)).filter fun k => (inpD w k).isEmpty := by rw [e]; simp
    have := List.isEmpty_iff.mp (List.mem_filter.mp this).2
    rw [this] at ha
    cases ha
theorem setD {M : List Int} {t b : Nat} {x : Int} (h : t < M.length) : (M.set t x).getD b 0 = if b = t then x else M.getD b 0 := by
  rw [List.getD_eq_getElem?_getD, List.getD_eq_getElem?_getD, List.getElem?_set]
  by_cases c : t = b
  · subst c; simp [h]
  · rw [if_neg c, if_neg (Ne.symm c)]
/-- one taker more -/
theorem KI.next {w : List SD} {P pre rest row M : List Int} {g t : Nat} (h : KI w P pre row M) (ht : t < w.length) (hg : (g : Int) ∉ P) (hP : ∀ a ∈ P, a ∈ row) (hgr : (g : Int) ∈ row) (e : tk w g = pre ++ (t : Int) :: rest) :
    (M.getD t 0 - 1 ≠ 0 → KI w P (pre ++ [(t : Int)]) row (M.set t (M.getD t 0 - 1))) ∧ (M.getD t 0 - 1 = 0 → KI w P (pre ++ [(t : Int)]) (row ++ [(t : Int)]) (M.set t (M.getD t 0 - 1))) := by
  have tl : t < M.length := by rw [h.len]; exact ht
  have c1 : (tk w g).count (t : Int) = (inpD w (t : Int)).count (g : Int) := count_tk ht
  have c2 : (inpD w (t : Int)).count (g : Int) ≤ cnt w P t := by rw [cnt_snoc hg]; omega
  have c3 : pre.count (t : Int) + 1 ≤ (tk w g).count (t : Int) := by rw [e, List.count_append, List.count_cons_self]; omega
  have v := h.val t ht
  have pos : 1 ≤ M.getD t 0 := by omega
  have nt : (t : Int) ∉ row := fun z => by have := (h.rw_ t ht).mp z; omega
  have val' : ∀ b : Nat, b < w.length → (M.set t (M.getD t 0 - 1)).getD b 0 + ((pre ++ [(t : Int)]).count (b : Int) : Int) = (cnt w P b : Int) := fun b hb => by
    rw [setD tl, List.count_append]
    by_cases c : b = t
    · subst c
      rw [if_pos rfl, List.count_cons_self, List.count_nil]
      omega
    · rw [if_neg c, List.count_cons_of_ne (by omega), List.count_nil]
      have := h.val b hb
      omega
  refine ⟨fun nz => ⟨by rw [List.length_set]; exact h.len, val', fun b hb => ?_, h.fin⟩, fun z => ⟨by rw [List.length_set]; exact h.len, val', fun b hb => ?_, ?_, fun a ha => ?_, fun p k q eq a ha => ?_⟩⟩
  · rw [setD tl]
    by_cases c : b = t
    · subst c
      rw [if_pos rfl]
      exact ⟨fun q => absurd q nt, fun q => absurd q nz⟩
    · rw [if_neg c]; exact h.rw_ b hb
  · rw [setD tl, List.mem_append]
    by_cases c : b = t
    · subst c
      rw [if_pos rfl]
      exact ⟨fun _ => z, fun _ => .inr (by simp)⟩
    · rw [if_neg c]
      refine ⟨fun q => ?_, fun q => .inl ((h.rw_ b hb).mpr q)⟩
      rcases q with q | q
      · exact (h.rw_ b hb).mp q
      · exact absurd (by have := List.mem_singleton.mp q; omega) c
  · rw [List.nodup_append]
    exact ⟨h.fin.nd, by simp, fun a ha b hb eq => nt (by have := List.mem_singleton.mp hb; rw [← this, ← eq]; exact ha)⟩
  · rcases List.mem_append.mp ha with ha | ha
    · exact h.fin.mem a ha
    · exact ⟨t, List.mem_singleton.mp ha, ht⟩
  · rcases List.append_eq_append_iff.mp eq with ⟨m, e1, e2⟩ | ⟨m, e1, e2⟩
    · cases m with
      | nil =>
        have e2 : (t : Int) = k := by have := (List.cons.inj e2).1; exact this
        subst e2
        rw [List.append_nil] at e1
        rw [e1]
        by_cases haP : a ∈ P
        · exact hP a haP
        · by_cases hag : a = (g : Int)
          · rw [hag]; exact hgr
          · exfalso
            have s := cnt_snoc (w := w) (b := t) hg
            have n0 : cnt w (P ++ [(g : Int)]) t ≠ 0 := fun q => by
              have := cnt_zero.mp q a ha
              rcases List.mem_append.mp this with q | q
              · exact haP q
              · exact hag (List.mem_singleton.mp q)
            omega
      | cons c m => cases m <;> cases e2
    · cases m with
      | nil =>
        have e2 : k = (t : Int) := by have := (List.cons.inj e2).1; exact this
        subst e2
        rw [List.append_nil] at e1
        rw [← e1]
        by_cases haP : a ∈ P
        · exact hP a haP
        · by_cases hag : a = (g : Int)
          · rw [hag]; exact hgr
          · exfalso
            have s := cnt_snoc (w := w) (b := t) hg
            have n0 : cnt w (P ++ [(g : Int)]) t ≠ 0 := fun q => by
              have := cnt_zero.mp q a ha
              rcases List.mem_append.mp this with q | q
              · exact haP q
              · exact hag (List.mem_singleton.mp q)
            omega
      | cons c m =>
        rw [List.cons_append] at e2
        obtain ⟨rfl, e3⟩ := List.cons.inj e2
        exact h.fin.bef p k m e1 a ha
/-- all takers of g -/
theorem KI.done {w : List SD} {P row M : List Int} {g : Nat} (h : KI w P (tk w g) row M) (hg : (g : Int) ∉ P) : KI w (P ++ [(g : Int)]) [] row M :=
  ⟨h.len, fun b hb => by
    have := h.val b hb
    rw [count_tk hb] at this
    have s := cnt_snoc (w := w) (b := b) hg
    simp only [List.count_nil]
    omega, h.rw_, h.fin⟩
theorem KI.end_ {w : List SD} {row M : List Int} (h : KI w row [] row M) : readyL w row = [] := by
  rw [List.eq_nil_iff_forall_not_mem]
  intro a ha
  obtain ⟨⟨b, rfl, hb⟩, n, al⟩ := mem_readyL.mp ha
  have := cnt_zero.mpr al
  have v := h.val b hb
  simp only [List.count_nil] at v
  exact n ((h.rw_ b hb).mpr (by omega))
theorem takeNext {α : Type} {l : List α} {i : Nat} (h : i < l.length) : l.take (i + 1) = l.take i ++ [l[i]] := by
  rw [List.take_add_one, List.getElem?_eq_getElem h]; rfl
theorem KI.bd {w : List SD} {P pre row M : List Int} (h : KI w P pre row M) : row.length ≤ w.length := h.fin.len
end PP

set_option Elab.async false
set_option linter.all false
set_option maxRecDepth 100000
set_option maxHeartbeats 2000000
namespace PP
open PySem PySem.Spec PyProof.Rows L2
/-! ### rows -/
def RI (w : List SD) (a b : Int) : Prop := Reach w a.toNat b.toNat
theorem reach_lt {w : List SD} {rk : Nat → Nat} (h : ∀ i s, w[i]? = some s → ∀ j ∈ s.2, rk j.toNat < rk i) {a b : Nat} (r : Reach w a b) : rk a < rk b := by
  have one : ∀ {a b : Nat}, Tie w a b → rk a < rk b := fun ⟨s, e, m⟩ => by
    have := h _ s e _ m
    rwa [Int.toNat_natCast] at this
  induction r with
  | one t => exact one t
  | more t _ ih => exact Nat.lt_trans (one t) ih
theorem reach_tr {w : List SD} {a b c : Nat} (r : Reach w a b) (r' : Reach w b c) : Reach w a c := by
  induction r with
  | one t => exact .more t r'
  | more t _ ih => exact .more t (ih r')
theorem RI.tr {w : List SD} {a b c : Int} (h : RI w a b) (h' : RI w b c) : RI w a c := reach_tr h h'
theorem RI.asym {n : Nat} {w : List SD} (hw : Wb n w) {a b : Int} (h : RI w a b) (h' : RI w b a) : False := by
  obtain ⟨_, _, _, rk, _, a5⟩ := hw
  have := reach_lt a5 h
  have := reach_lt a5 h'
  omega
theorem pw_uniq {R : Int → Int → Prop} (as : ∀ x y, R x y → R y x → False) : ∀ {l m : List Int}, l.Perm m → l.Pairwise R → m.Pairwise R → l = m
  | [], m, h, _, _ => (List.Perm.eq_nil h.symm).symm
  | x :: l, [], h, _, _ => absurd h.length_eq (by simp)
  | x :: l, y :: m, h, hl, hm => by
    have e : x = y := by
      refine Classical.byContradiction fun ne => ?_
      have h1 : x ∈ m := by
        rcases List.mem_cons.mp (h.mem_iff.mp (List.mem_cons_self (a := x) (l := l))) with e | hx
        · exact absurd e ne
        · exact hx
      have h2 : y ∈ l := by
        rcases List.mem_cons.mp (h.mem_iff.mpr (List.mem_cons_self (a := y) (l := m))) with e | hx
        · exact absurd e.symm ne
        · exact hx
      exact as x y ((List.pairwise_cons.mp hl).1 y h2) ((List.pairwise_cons.mp hm).1 x h1)
    subst e
    rw [pw_uniq as h.cons_inv (List.pairwise_cons.mp hl).2 (List.pairwise_cons.mp hm).2]
theorem pw_total {R : Int → Int → Prop} : ∀ {l : List Int}, l.Pairwise R → ∀ x ∈ l, ∀ y ∈ l, x ≠ y → R x y ∨ R y x
  | [], _, x, h, _, _, _ => nomatch h
  | a :: l, hp, x, hx, y, hy, ne => by
    obtain ⟨h1, h2⟩ := List.pairwise_cons.mp hp
    rcases List.mem_cons.mp hx with e | hx
    · rcases List.mem_cons.mp hy with e' | hy
      · exact absurd (e.trans e'.symm) ne
      · exact .inl (e ▸ h1 y hy)
    · rcases List.mem_cons.mp hy with e' | hy
      · exact .inr (e' ▸ h1 x hx)
      · exact pw_total h2 x hx y hy ne
def Chn (w : List SD) (B r : List Int) : Prop := r.Perm B ∧ r.Pairwise (RI w)
structure RowOf (w : List SD) (B : List Int) (o : Option (List Int)) : Prop where
  yes : ∀ r, o = some r → Chn w B r
  no : o = none → ¬ ∃ r, Chn w B r
theorem RowOf.uniq {n : Nat} {w : List SD} (hw : Wb n w) {B : List Int} {o o' : Option (List Int)} (h : RowOf w B o) (h' : RowOf w B o') : o = o' := by
  cases o with
  | none =>
    cases o' with
    | none => rfl
    | some r => exact absurd ⟨r, h'.yes r rfl⟩ (h.no rfl)
  | some r =>
    cases o' with
    | none => exact absurd ⟨r, h.yes r rfl⟩ (h'.no rfl)
    | some r' =>
      have a := h.yes r rfl
      have b := h'.yes r' rfl
      rw [pw_uniq (fun x y => RI.asym hw) (a.1.trans b.1.symm) a.2 b.2]
def rowDat (o : Option (List Int)) : D := match o with | some r => tupI r | none => .none
def dueDat (o : Option (List Int)) : D := match o with | some r => tupI r | none => tupI []
/-! ### the givers first: what leads to a step stands before it -/
theorem fst_anc {w : List SD} {l : List Int} (h : Fst w l) {a k : Nat} (r : Reach w a k) : ∀ p q : List Int, l = p ++ (k : Int) :: q → (a : Int) ∈ p := by
  have one : ∀ {a k : Nat}, Tie w a k → ∀ p q : List Int, l = p ++ (k : Int) :: q → (a : Int) ∈ p := fun {a k} ⟨s, e, m⟩ p q el => by
    refine h.bef p (k : Int) q el (a : Int) ?_
    unfold inpD
    have lt := (List.getElem?_eq_some_iff.mp e)
    rw [Int.toNat_natCast, getD_at lt.1, lt.2]
    exact m
  induction r with
  | one t => exact one t
  | more t _ ih =>
    intro p q el
    have hb := ih p q el
    obtain ⟨p1, p2, rfl⟩ := List.append_of_mem hb
    have := one t p1 (p2 ++ _ :: q) (by rw [el, List.append_assoc]; rfl)
    exact List.mem_append_left _ this
theorem fst_pw {w : List SD} {l : List Int} (h : Fst w l) : l.Pairwise fun x y => x ≠ y ∧ ¬ RI w y x := by
  have key : ∀ p q : List Int, l = p ++ q → q.Pairwise fun x y => x ≠ y ∧ ¬ RI w y x := by
    intro p q
    induction q generalizing p with
    | nil => intro _; exact .nil
    | cons x q ih =>
      intro el
      refine List.pairwise_cons.mpr ⟨fun y hy => ?_, ih (p ++ [x]) (by rw [el]; simp)⟩
      have nd := h.nd
      rw [el] at nd
      have nd2 := List.nodup_append.mp nd
      have hxy : x ≠ y := fun e => (List.nodup_cons.mp nd2.2.1).1 (e ▸ hy)
      refine ⟨hxy, fun r => ?_⟩
      obtain ⟨x', rfl, _⟩ := (h.mem x).mp (by rw [el]; simp)
      obtain ⟨y', rfl, _⟩ := (h.mem y).mp (by rw [el]; simp [hy])
      unfold RI at r
      rw [Int.toNat_natCast, Int.toNat_natCast] at r
      have := fst_anc h r p q el
      exact nd2.2.2 _ this _ (List.mem_cons_of_mem _ hy) rfl
  exact key [] l rfl
theorem row_perm {w : List SD} {l B : List Int} (h : Fst w l) (hB : InS w B) : (l.filter fun x => B.any (· == x)).Perm B := by
  refine (List.perm_ext_iff_of_nodup (h.nd.sublist List.filter_sublist) (asc_nodup hB.asc)).mpr fun x => ?_
  rw [List.mem_filter, any_is]
  refine ⟨fun z => z.2, fun z => ⟨(h.mem x).mpr ?_, z⟩⟩
  have := hB.bd x z
  exact ⟨x.toNat, by omega, by omega⟩
/-- if it stands in a row at all, it stands so -/
theorem row_chain {w : List SD} {l B : List Int} (h : Fst w l) (hB : InS w B) (ex : ∃ r, Chn w B r) : Chn w B (l.filter fun x => B.any (· == x)) := by
  refine ⟨row_perm h hB, ?_⟩
  obtain ⟨r, hp, hr⟩ := ex
  have pw := (fst_pw h).sublist (List.filter_sublist (p := fun x => B.any (· == x)))
  refine pw.imp_of_mem fun {a b} ha hb z => ?_
  have ha := hp.mem_iff.mpr ((row_perm h hB).mem_iff.mp ha)
  have hb := hp.mem_iff.mpr ((row_perm h hB).mem_iff.mp hb)
  exact (pw_total hr a ha b hb z.1).resolve_right z.2
/-- neighbours that lead make a row -/
theorem pw_of_next {R : Int → Int → Prop} (tr : ∀ x y z, R x y → R y z → R x z) : ∀ {l : List Int}, (∀ i, ∀ h : i + 1 < l.length, R (l[i]'(by omega)) l[i + 1]) → l.Pairwise R
  | [], _ => .nil
  | [a], _ => by simp
  | a :: b :: l, h => by
    have ih := pw_of_next (R := R) tr (l := b :: l) fun i hi => h (i + 1) (by simp at hi ⊢; omega)
    have hab : R a b := h 0 (by simp)
    refine List.pairwise_cons.mpr ⟨fun y hy => ?_, ih⟩
    rcases List.mem_cons.mp hy with e | hy
    · exact e ▸ hab
    · exact tr _ _ _ hab ((List.pairwise_cons.mp ih).1 y hy)
/-! ### a row of ties from one step of a block to another one stays in it -/
def Stp' (w : List SD) : List Int → Prop
  | [] => True
  | [_] => True
  | x :: y :: r => adjB w x y = true ∧ Stp' w (y :: r)
theorem stp_cn {w : List SD} {U : List Int} : ∀ {p : List Int} {x : Int}, Stp' w (x :: p) → (∀ z ∈ x :: p, z ∈ U) → ∀ z ∈ x :: p, Cn w U x z
  | [], x, _, hU, z, hz => by
    have : z = x := by simpa using hz
    subst this
    exact .refl (hU z hz)
  | y :: p, x, hs, hU, z, hz => by
    obtain ⟨h1, h2⟩ := hs
    have xy : Cn w U x y := .step (.refl (hU x (by simp))) (hU y (by simp)) h1
    rcases List.mem_cons.mp hz with e | hz
    · subst e; exact .refl (hU z (by simp))
    · exact xy.trans (stp_cn h2 (fun z hz => hU z (List.mem_cons_of_mem _ hz)) z hz)
theorem stp_suf {w : List SD} : ∀ {p q : List Int}, Stp' w (p ++ q) → Stp' w q
  | [], _, h => h
  | [a], [], h => trivial
  | [a], b :: q, h => h.2
  | a :: b :: p, q, h => stp_suf (p := b :: p) h.2
theorem stp_pre {w : List SD} : ∀ {p q : List Int}, Stp' w (p ++ q) → Stp' w p
  | [], _, _ => trivial
  | [a], _, _ => trivial
  | a :: b :: p, q, h => ⟨h.1, stp_pre (p := b :: p) h.2⟩
/-- ties as a list of steps -/
theorem reach_path {n : Nat} {w : List SD} (hw : Wb n w) {a b : Nat} (r : Reach w a b) : b < w.length ∧ ∃ p : List Int, Stp' w ((a : Int) :: p) ∧ ((a : Int) :: p).Pairwise (RI w) ∧ (b : Int) ∈ p ∧ (∀ x ∈ (a : Int) :: p, 0 ≤ x ∧ x < w.length) ∧ (∀ x ∈ p, x = (b : Int) ∨ RI w x b) ∧ ∃ y q, p = y :: q ∧ (a : Int) ∈ inpD w y := by
  have tie : ∀ {a b : Nat}, Tie w a b → b < w.length ∧ a < w.length ∧ (a : Int) ∈ inpD w b ∧ adjB w a b = true := fun {a b} ⟨s, e, m⟩ => by
    obtain ⟨lt, es⟩ := List.getElem?_eq_some_iff.mp e
    have := (hw.2.2.1 s (List.mem_of_getElem? e)).2.2 _ m
    have hi : (a : Int) ∈ inpD w b := by
      unfold inpD
      rw [Int.toNat_natCast, getD_at lt, es]
      exact m
    refine ⟨lt, by omega, hi, ?_⟩
    unfold adjB
    rw [Bool.or_eq_true, any_is]
    exact .inl hi
  have ri : ∀ {a b : Nat}, Reach w a b → RI w a b := fun r => by unfold RI; rw [Int.toNat_natCast, Int.toNat_natCast]; exact r
  induction r with
  | @one a b t =>
    obtain ⟨h1, h2, h3, h4⟩ := tie t
    refine ⟨h1, [(b : Int)], ⟨h4, trivial⟩, by simp; exact ri (.one t), by simp, fun x hx => ?_, fun x hx => .inl (by simpa using hx), _, _, rfl, h3⟩
    simp only [List.mem_cons, List.not_mem_nil, or_false] at hx
    rcases hx with e | e <;> subst e <;> omega
  | @more a b c t r ih =>
    obtain ⟨h1, h2, h3, h4⟩ := tie t
    obtain ⟨lc, p, s1, s2, s3, s4, s5, _⟩ := ih
    refine ⟨lc, (b : Int) :: p, ⟨h4, s1⟩, List.pairwise_cons.mpr ⟨fun x hx => ?_, s2⟩, by simp [s3], fun x hx => ?_, fun x hx => ?_, _, _, rfl, h3⟩
    · rcases List.mem_cons.mp hx with e | hx
      · subst e; exact ri (.one t)
      · exact (ri (.one t)).tr ((List.pairwise_cons.mp s2).1 x hx)
    · rcases List.mem_cons.mp hx with e | hx
      · subst e; omega
      · exact s4 x hx
    · rcases List.mem_cons.mp hx with e | hx
      · subst e; exact .inr (ri r)
      · exact s5 x hx
theorem path_in {w : List SD} (hw : Wb 10 w) {B : List Int} (m : MaxF w (stepsI w) B) {a b : Nat} (ha : (a : Int) ∈ B) (hb : (b : Int) ∈ B) (r : Reach w a b) : ∃ y ∈ B, (a : Int) ∈ inpD w y ∧ (y = (b : Int) ∨ RI w y b) := by
  obtain ⟨_, p, s1, s2, s3, s4, s5, y, q, ep, hy⟩ := reach_path hw r
  have nd : ((a : Int) :: p).Nodup := s2.imp fun {x y} z e => (e ▸ z).asym hw (e ▸ z)
  -- all steps of both
  obtain ⟨U, hU⟩ : ∃ U : List Int, U = (stepsI w).filter fun x => decide (x ∈ B ∨ x ∈ (a : Int) :: p) := ⟨_, rfl⟩
  have mU : ∀ x, x ∈ U ↔ x ∈ B ∨ x ∈ (a : Int) :: p := fun x => by
    rw [hU, List.mem_filter, decide_eq_true_eq]
    refine ⟨fun z => z.2, fun z => ⟨?_, z⟩⟩
    rcases z with z | z
    · exact m.sub x z
    · have := s4 x z
      exact mem_rowI.mpr ⟨x.toNat, by omega, by omega⟩
  have aU : U.Pairwise (· < ·) := hU ▸ asc_filter (rowI_asc _)
  have BU : ∀ x ∈ B, x ∈ U := fun x hx => (mU x).mpr (.inl hx)
  have outs : ∀ v, Hang w (outL U v) := by
    intro v
    have hB := m.firm.outs v
    have up : ∀ x ∈ outL B v, x ∈ outL U v := fun x hx => mem_out.mpr ⟨BU x (mem_out.mp hx).1, (mem_out.mp hx).2⟩
    -- each step is joined to one of the block
    have join : ∀ x ∈ outL U v, ∃ z ∈ outL B v, Cn w (outL U v) x z := by
      intro x hx
      obtain ⟨hx1, hx2⟩ := mem_out.mp hx
      rcases (mU x).mp hx1 with h | h
      · exact ⟨x, mem_out.mpr ⟨h, hx2⟩, .refl hx⟩
      · obtain ⟨p1, p2, e⟩ := List.append_of_mem h
        by_cases hv : v ∈ p1
        · -- then behind x
          have nv : v ∉ x :: p2 := fun z => by
            rw [e] at nd
            exact (List.nodup_append.mp nd).2.2 v hv v z rfl
          have st : Stp' w (x :: p2) := stp_suf (p := p1) (by rw [← e]; exact s1)
          have inn : ∀ z ∈ x :: p2, z ∈ outL U v := fun z hz => mem_out.mpr ⟨(mU z).mpr (.inr (by rw [e]; simp only [List.mem_append]; exact .inr hz)), fun e' => nv (e' ▸ hz)⟩
          have bm : (b : Int) ∈ x :: p2 := by
            have hp1 : p1 ≠ [] := fun e' => by rw [e'] at hv; cases hv
            cases p1 with
            | nil => exact absurd rfl hp1
            | cons c p1 =>
              have e2 : p = p1 ++ x :: p2 := (List.cons.inj e).2
              rw [e2] at s3 s5 s2
              rcases List.mem_append.mp s3 with z | z
              · exfalso
                have pw := (List.pairwise_cons.mp s2).2
                have r1 := (List.pairwise_append.mp pw).2.2 _ z x (by simp)
                rcases s5 x (by simp) with q' | q'
                · rw [q'] at r1
                  exact r1.asym hw r1
                · exact r1.asym hw q'
              · exact z
          exact ⟨(b : Int), mem_out.mpr ⟨hb, fun e' => nv (e' ▸ bm)⟩, stp_cn st inn _ bm⟩
        · by_cases hxa : p1 = []
          · subst hxa
            have : x = (a : Int) := (List.cons.inj e).1.symm
            exact ⟨x, mem_out.mpr ⟨this ▸ ha, hx2⟩, .refl hx⟩
          · have st : Stp' w (p1 ++ [x]) := stp_pre (q := p2) (by rw [List.append_assoc]; rw [← show (a : Int) :: p = p1 ++ ([x] ++ p2) from e]; exact s1)
            cases p1 with
            | nil => exact absurd rfl hxa
            | cons c p1 =>
              have ec : c = (a : Int) := (List.cons.inj e).1.symm
              subst ec
              have inn : ∀ z ∈ (a : Int) :: (p1 ++ [x]), z ∈ outL U v := fun z hz => by
                have hz : z ∈ (a : Int) :: p1 ∨ z = x := by simpa [or_assoc] using hz
                rcases hz with z1 | z1
                · exact mem_out.mpr ⟨(mU z).mpr (.inr (by rw [e]; exact List.mem_append_left _ z1)), fun e' => hv (e' ▸ z1)⟩
                · exact z1 ▸ hx
              have c := stp_cn (p := p1 ++ [x]) st inn x (by simp)
              exact ⟨(a : Int), mem_out.mpr ⟨ha, (mem_out.mp c.left).2⟩, c.symm⟩
    intro x hx y hy
    obtain ⟨z, hz, c1⟩ := join x hx
    obtain ⟨z', hz', c2⟩ := join y hy
    exact c1.trans (((hB z hz z' hz').mono up).trans c2.symm)
  have fU : Firm w U := by
    refine ⟨?_, ?_, fun v _ => outs v⟩
    · have := m.firm.two
      have := sub_len (asc_nodup m.asc) BU
      omega
    · have e : outL U (-1) = U := out_self fun h => by
        have := (InS.all w).bd (-1) ((by
          rcases (mU (-1)).mp h with z | z
          · exact m.sub _ z
          · have := s4 _ z; omega))
        omega
      have := outs (-1)
      rwa [e] at this
  have eU := m.max U aU (fun x hx => by
    rw [hU] at hx
    exact (List.mem_filter.mp hx).1) fU BU
  refine ⟨y, ?_, hy, s5 y (by rw [ep]; simp)⟩
  rw [← eU]
  exact (mU y).mpr (.inr (by rw [ep]; simp))
/-- neighbours in the row of a block are tied -/
theorem next_tied {w : List SD} (hw : Wb 10 w) {B r : List Int} (m : MaxF w (stepsI w) B) (hr : Chn w B r) (i : Nat) (h : i + 1 < r.length) : (r[i]'(by omega)) ∈ inpD w r[i + 1] := by
  have hi : i < r.length := by omega
  have ma := hr.1.mem_iff.mp (List.getElem_mem hi)
  have mb := hr.1.mem_iff.mp (List.getElem_mem h)
  obtain ⟨a, ea, la⟩ := mem_rowI.mp (m.sub _ ma)
  obtain ⟨b, eb, lb⟩ := mem_rowI.mp (m.sub _ mb)
  have rab : RI w r[i] r[i + 1] := List.pairwise_iff_getElem.mp hr.2 i (i + 1) hi h (by omega)
  rw [ea, eb] at rab ⊢
  rw [ea] at ma
  rw [eb] at mb
  unfold RI at rab
  rw [Int.toNat_natCast, Int.toNat_natCast] at rab
  obtain ⟨y, hy, hay, hyb⟩ := path_in hw m ma mb rab
  rcases hyb with e | ryb
  · exact e ▸ hay
  · exfalso
    obtain ⟨k, hk, ek⟩ := List.mem_iff_getElem.mp (hr.1.mem_iff.mpr hy)
    have ray : RI w a y := by
      unfold RI
      have hyw := (InS.all w).bd y (m.sub y hy)
      obtain ⟨y', rfl, hl⟩ := nat_ix hyw.1 hyw.2
      rw [Int.toNat_natCast, Int.toNat_natCast]
      unfold inpD at hay
      rw [Int.toNat_natCast, getD_at hl] at hay
      exact .one ⟨w[y'], List.getElem?_eq_getElem hl, hay⟩
    rw [← ek] at ray ryb
    have lt1 : i < k := by
      rcases Nat.lt_trichotomy i k with h | h | h
      · exact h
      · subst h
        rw [ea] at ray
        exact absurd ray fun z => z.asym hw z
      · have := List.pairwise_iff_getElem.mp hr.2 k i hk hi h
        rw [ea] at this
        exact absurd ray fun z => z.asym hw this
    have lt2 : k < i + 1 := by
      rcases Nat.lt_trichotomy k (i + 1) with h' | h' | h'
      · exact h'
      · subst h'
        rw [eb] at ryb
        exact absurd ryb fun z => z.asym hw z
      · have := List.pairwise_iff_getElem.mp hr.2 (i + 1) k h hk h'
        rw [eb] at this
        exact absurd ryb fun z => z.asym hw this
    omega
end PP

set_option Elab.async false
set_option linter.all false
set_option maxRecDepth 100000
set_option maxHeartbeats 2000000
namespace PP
open PySem PySem.Spec PyProof.Rows L2
def kRow : KF := fun ds Q => ∃ (w : List SD) (B : List Int), ds = [webD w, tupI B] ∧ Wb 100 w ∧ InS w B ∧ ∀ o : Option (List Int), RowOf w B o → Q (rowDat o)
theorem kRow_mono : MonoC kRow := fun ds Q Q' f ⟨w, B, h1, h2, h3, q⟩ => ⟨w, B, h1, h2, h3, fun o h => f _ (q o h)⟩
def Joined (w : List SD) (L : List (List Int)) : Prop := L.length = w.length ∧ ∀ (i : Nat) (l : List Int), L[i]? = some l → ∀ k : Int, k ∈ l ↔ ∃ b : Nat, k = b ∧ Reach w i b
def kLRow : KF := fun ds Q => ∃ (w : List SD) (L : List (List Int)) (B : List Int), ds = [.list (L.map fun l => .list (l.map PyData.int)), tupI B] ∧ Wb 10 w ∧ Joined w L ∧ InS w B ∧ ∀ o : Option (List Int), RowOf w B o → Q (dueDat o)
theorem kLRow_mono : MonoC kLRow := fun ds Q Q' f ⟨w, L, B, h1, h2, h3, h4, q⟩ => ⟨w, L, B, h1, h2, h3, h4, fun o h => f _ (q o h)⟩
end PP

set_option Elab.async false
set_option linter.all false
set_option maxRecDepth 100000
set_option maxHeartbeats 2000000
namespace PP
open PySem PySem.Spec PyProof.Rows L2
section
variable {P : Program} {w : World} {K : PySem.W.Frag} {mg : Str → Option Value} {base : Heap}
abbrev s_law_pick : Stmt := topS 12
theorem sc_law_pick : FnScope ["deck", "items"] ["deck", "items"] (defScope s_law_pick) := ⟨rfl, rfl, rfl, by decide +kernel, rfl, by decide +kernel, by decide +kernel⟩
theorem d_law_pick (m : Nm K mg) (h : Hd K mg "_law_pick" s_law_pick ["deck", "items"]) (c_law_draw : Cl P w K mg base 1 "_law_draw" ["deck", "bound"] [.dk, .val] kDraw) : Cl P w K mg base 2 "_law_pick" ["deck", "items"] [.dk, .val] kPick := by
  have nd := sc_law_pick.nd
  refine clD (N := ["deck", "items"]) (M := [.dk, .val]) h sc_law_pick kPick_mono rfl rfl rfl (by decide) ⟨_, fun f cdv A outer s H E e hr hg => have hu := hr.units; have hu8 := hr.un80;
    (dss_one (ds_ret (de_item (rv 1) (DE.re (cl c_law_draw (hr.mono (by decide)) hg (gdk 0 (ga_val (de_len (by rfl) m.nlen (ar_cons (rv 1) ar_nil)) ga_nil)))) (fun _ _ => rfl)))), fun ds Q q => ?_⟩
  unfold kPick at q
  split at q
  · rename_i dk xs
    obtain ⟨⟨h1, h2⟩, q⟩ := q
    simp only [startD, List.length_cons, List.length_nil, List.map_cons, List.map_nil, List.replicate, List.cons_append, List.nil_append, Nat.sub_self, Nat.zero_add, Nat.add_sub_cancel, Nat.reduceAdd, Nat.reduceSub, gt, sv, tV, t2, tK, tCl, tConsA, tNilA, tDk, tSq, dSet, dPar, tIfD, tTst, tFz, tTupD, tLstD, tApp, dAppPop, tPut, tPop, tIdx, tSeqI, tYesD, tBor, dExt, wipeD, gN, gTupD, gConsD, gNilD, tComp, kLen, kInt, kAbs, kMax2, kTupl, kListF, kI, NoC, kEq, true_and, tSlF, tSl2, tAndD, tOrD, tAndE, tOrE, t1, kNeg, kIsN, id_eq]
    refine ⟨⟨by omega, by omega⟩, fun n h0 hn => ?_⟩
    obtain ⟨j, rfl, hj⟩ := nat_ix h0 hn
    simp only [kIx, atI_at hj]
    exact q _ (List.getElem_mem hj)
  · rename_i dk xs
    obtain ⟨⟨h1, h2⟩, q⟩ := q
    simp only [startD, List.length_cons, List.length_nil, List.map_cons, List.map_nil, List.replicate, List.cons_append, List.nil_append, Nat.sub_self, Nat.zero_add, Nat.add_sub_cancel, Nat.reduceAdd, Nat.reduceSub, gt, sv, tV, t2, tK, tCl, tConsA, tNilA, tDk, tSq, dSet, dPar, tIfD, tTst, tFz, tTupD, tLstD, tApp, dAppPop, tPut, tPop, tIdx, tSeqI, tYesD, tBor, dExt, wipeD, gN, gTupD, gConsD, gNilD, tComp, kLen, kInt, kAbs, kMax2, kTupl, kListF, kI, NoC, kEq, true_and, tSlF, tSl2, tAndD, tOrD, tAndE, tOrE, t1, kNeg, kIsN, id_eq]
    refine ⟨⟨by omega, by omega⟩, fun n h0 hn => ?_⟩
    obtain ⟨j, rfl, hj⟩ := nat_ix h0 hn
    simp only [kIx, atI_at hj]
    exact q _ (List.getElem_mem hj)
  · exact q.elim
abbrev s_law_mixed : Stmt := topS 13
theorem sc_law_mixed : FnScope ["deck", "items", "rest", "found", "turn"] ["deck", "items"] (defScope s_law_mixed) := ⟨rfl, rfl, rfl, by decide +kernel, rfl, by decide +kernel, by decide +kernel⟩
theorem d_law_mixed (m : Nm K mg) (h : Hd K mg "_law_mixed" s_law_mixed ["deck", "items"]) (c_law_draw : Cl P w K mg base 1 "_law_draw" ["deck", "bound"] [.dk, .val] kDraw) : Cl P w K mg base 2 "_law_mixed" ["deck", "items"] [.dk, .val] kMixed := by
  have nd := sc_law_mixed.nd
  refine clD (N := ["deck", "items", "rest", "found", "turn"]) (M := [.dk, .val, .own, .own, .val]) h sc_law_mixed kMixed_mono rfl rfl rfl (by decide) ⟨_, fun f cdv A outer s H E e hr hg => have hu := hr.units; have hu8 := hr.un80;
    (dss_cons (ds_par (i := 2) (j := 3) (by rfl) nd rfl rfl (FE.se (fe_list (by rfl) m.nlist (ar_cons (rv 1) ar_nil))) (FE.se (fe_lst ae_nil)))
  (dss_cons (ds_for (L := [4]) PassesOwn.never (by rfl) (di_range1 (by rfl) m.nrange (DE.re (de_len (by rfl) m.nlen (ar_cons (rv 1) ar_nil)))) (fun _ => (gn (L := [4]) 4 nd)) (fun _ => (dss_one (ds_appPop 2 3 (hb := (DE.re (cl c_law_draw (hr.mono (by decide)) hg (gdk 0 (ga_val (de_len (by rfl) m.nlen (ar_cons (rv 2) ar_nil)) ga_nil)))))))))
  (dss_one (dr 3)))), fun ds Q q => ?_⟩
  unfold kMixed at q
  split at q
  · rename_i dk xs
    obtain ⟨h1, q⟩ := q
    simp only [startD, List.length_cons, List.length_nil, List.map_cons, List.map_nil, List.replicate, List.cons_append, List.nil_append, Nat.sub_self, Nat.zero_add, Nat.add_sub_cancel, Nat.reduceAdd, Nat.reduceSub, gt, sv, tV, t2, tK, tCl, tConsA, tNilA, tDk, tSq, dSet, dPar, tIfD, tTst, tFz, tTupD, tLstD, tApp, dAppPop, tPut, tPop, tIdx, tSeqI, tYesD, tBor, dExt, wipeD, gN, gTupD, gConsD, gNilD, tComp, kLen, kInt, kAbs, kMax2, kTupl, kListF, kI, NoC, kEq, true_and, tSlF, tSl2, tAndD, tOrD, tAndE, tOrE, t1, kNeg, kIsN, id_eq]
    refine ⟨by decide, ⟨by omega, by omega⟩, ?_⟩
    refine forD_step (fun r ρ => ∃ (y : D) (xs' zs : List D) (o : Option D), ρ = [some dk, some y, some (.list xs'), some (.list zs), o] ∧ (xs' ++ zs).Perm xs ∧ r.length = xs'.length ∧ xs'.length + zs.length ≤ 500) ⟨_, xs, [], none, rfl, by simp, by simp [rgD], by simp; omega⟩ ?_ ?_
    · rintro x r ρ k ⟨y, xs', zs, o, rfl, hp, hl, hz⟩ hk
      simp only [startD, List.length_cons, List.length_nil, List.map_cons, List.map_nil, List.replicate, List.cons_append, List.nil_append, Nat.sub_self, Nat.zero_add, Nat.add_sub_cancel, Nat.reduceAdd, Nat.reduceSub, gt, sv, tV, t2, tK, tCl, tConsA, tNilA, tDk, tSq, dSet, dPar, tIfD, tTst, tFz, tTupD, tLstD, tApp, dAppPop, tPut, tPop, tIdx, tSeqI, tYesD, tBor, dExt, wipeD, gN, gTupD, gConsD, gNilD, tComp, kLen, kInt, kAbs, kMax2, kTupl, kListF, kI, NoC, kEq, true_and, tSlF, tSl2, tAndD, tOrD, tAndE, tOrE, t1, kNeg, kIsN, id_eq]
      rw [List.length_cons] at hl
      refine ⟨⟨by omega, by omega⟩, fun n h0 hn => ?_⟩
      obtain ⟨j, rfl, hj⟩ := nat_ix h0 hn
      have e : xs'[j]? = some xs'[j] := List.getElem?_eq_getElem hj
      simp only [Int.toNat_natCast, e]
      refine ⟨⟨by omega, by omega, by omega, by omega⟩, hk _ ⟨y, xs'.eraseIdx j, zs ++ [xs'[j]], _, rfl, ?_, ?_, ?_⟩⟩
      · refine List.Perm.trans ?_ hp
        rw [← List.append_assoc]
        have p1 : (xs'[j] :: xs'.eraseIdx j).Perm xs' := erase_perm xs' j hj
        refine (List.perm_append_comm).trans ?_
        exact (List.Perm.append_right zs p1)
      · rw [List.length_eraseIdx_of_lt hj]; omega
      · rw [List.length_eraseIdx_of_lt hj, List.length_append, List.length_singleton]; omega
    · rintro ρ ⟨y, xs', zs, o, rfl, hp, hl, hz⟩
      have e : xs' = [] := List.length_eq_zero_iff.mp hl.symm
      subst e
      exact q _ hp
  · rename_i dk xs
    obtain ⟨h1, q⟩ := q
    simp only [startD, List.length_cons, List.length_nil, List.map_cons, List.map_nil, List.replicate, List.cons_append, List.nil_append, Nat.sub_self, Nat.zero_add, Nat.add_sub_cancel, Nat.reduceAdd, Nat.reduceSub, gt, sv, tV, t2, tK, tCl, tConsA, tNilA, tDk, tSq, dSet, dPar, tIfD, tTst, tFz, tTupD, tLstD, tApp, dAppPop, tPut, tPop, tIdx, tSeqI, tYesD, tBor, dExt, wipeD, gN, gTupD, gConsD, gNilD, tComp, kLen, kInt, kAbs, kMax2, kTupl, kListF, kI, NoC, kEq, true_and, tSlF, tSl2, tAndD, tOrD, tAndE, tOrE, t1, kNeg, kIsN, id_eq]
    refine ⟨by decide, ⟨by omega, by omega⟩, ?_⟩
    refine forD_step (fun r ρ => ∃ (y : D) (xs' zs : List D) (o : Option D), ρ = [some dk, some y, some (.list xs'), some (.list zs), o] ∧ (xs' ++ zs).Perm xs ∧ r.length = xs'.length ∧ xs'.length + zs.length ≤ 500) ⟨_, xs, [], none, rfl, by simp, by simp [rgD], by simp; omega⟩ ?_ ?_
    · rintro x r ρ k ⟨y, xs', zs, o, rfl, hp, hl, hz⟩ hk
      simp only [startD, List.length_cons, List.length_nil, List.map_cons, List.map_nil, List.replicate, List.cons_append, List.nil_append, Nat.sub_self, Nat.zero_add, Nat.add_sub_cancel, Nat.reduceAdd, Nat.reduceSub, gt, sv, tV, t2, tK, tCl, tConsA, tNilA, tDk, tSq, dSet, dPar, tIfD, tTst, tFz, tTupD, tLstD, tApp, dAppPop, tPut, tPop, tIdx, tSeqI, tYesD, tBor, dExt, wipeD, gN, gTupD, gConsD, gNilD, tComp, kLen, kInt, kAbs, kMax2, kTupl, kListF, kI, NoC, kEq, true_and, tSlF, tSl2, tAndD, tOrD, tAndE, tOrE, t1, kNeg, kIsN, id_eq]
      rw [List.length_cons] at hl
      refine ⟨⟨by omega, by omega⟩, fun n h0 hn => ?_⟩
      obtain ⟨j, rfl, hj⟩ := nat_ix h0 hn
      have e : xs'[j]? = some xs'[j] := List.getElem?_eq_getElem hj
      simp only [Int.toNat_natCast, e]
      refine ⟨⟨by omega, by omega, by omega, by omega⟩, hk _ ⟨y, xs'.eraseIdx j, zs ++ [xs'[j]], _, rfl, ?_, ?_, ?_⟩⟩
      · refine List.Perm.trans ?_ hp
        rw [← List.append_assoc]
        have p1 : (xs'[j] :: xs'.eraseIdx j).Perm xs' := erase_perm xs' j hj
        refine (List.perm_append_comm).trans ?_
        exact (List.Perm.append_right zs p1)
      · rw [List.length_eraseIdx_of_lt hj]; omega
      · rw [List.length_eraseIdx_of_lt hj, List.length_append, List.length_singleton]; omega
    · rintro ρ ⟨y, xs', zs, o, rfl, hp, hl, hz⟩
      have e : xs' = [] := List.length_eq_zero_iff.mp hl.symm
      subst e
      exact q _ hp
  · exact q.elim
abbrev s_law_kind : Stmt := topS 14
theorem sc_law_kind : FnScope ["deck", "many"] ["deck", "many"] (defScope s_law_kind) := ⟨rfl, rfl, rfl, by decide +kernel, rfl, by decide +kernel, by decide +kernel⟩
theorem d_law_kind (m : Nm K mg) (h : Hd K mg "_law_kind" s_law_kind ["deck", "many"]) (c_law_pick : Cl P w K mg base 2 "_law_pick" ["deck", "items"] [.dk, .val] kPick) : Cl P w K mg base 3 "_law_kind" ["deck", "many"] [.dk, .val] kKind := by
  have nd := sc_law_kind.nd
  refine clD (N := ["deck", "many"]) (M := [.dk, .val]) h sc_law_kind kKind_mono rfl rfl rfl (by decide) ⟨_, fun f cdv A outer s H E e hr hg => have hu := hr.units; have hu8 := hr.un80;
    (dss_one (ds_ret (cl c_law_pick (hr.mono (by decide)) hg (gdk 0 (ga_val (de_item (DE.re (FE.de (fe_lst (ae_cons (FE.de (fe_lst (ae_cons de_str (ae_cons de_str (ae_cons de_int (ae_cons (de_neg (DE.re de_int)) (ae_cons de_int (ae_cons de_int ae_nil)))))))) (ae_cons (FE.de (fe_lst (ae_cons de_str ae_nil))) (ae_cons (FE.de (fe_lst (ae_cons de_str (ae_cons de_str (ae_cons de_str ae_nil))))) (ae_cons (FE.de (fe_lst (ae_cons de_str ae_nil))) ae_nil))))))) (rv 1) (fun _ _ => rfl)) ga_nil))))), fun ds Q q => ?_⟩
  unfold kKind at q
  split at q
  · obtain ⟨k, rfl, hk, q⟩ := q
    simp only [startD, List.length_cons, List.length_nil, List.map_cons, List.map_nil, List.replicate, List.cons_append, List.nil_append, Nat.sub_self, Nat.zero_add, Nat.add_sub_cancel, Nat.reduceAdd, Nat.reduceSub, gt, sv, tV, t2, tK, tCl, tConsA, tNilA, tDk, tSq, dSet, dPar, tIfD, tTst, tFz, tTupD, tLstD, tApp, dAppPop, tPut, tPop, tIdx, tSeqI, tYesD, tBor, dExt, wipeD, gN, gTupD, gConsD, gNilD, tComp, kLen, kInt, kAbs, kMax2, kTupl, kListF, kI, NoC, kEq, true_and, tSlF, tSl2, tAndD, tOrD, tAndE, tOrE, t1, kNeg, kIsN, id_eq]
    match k, hk, q with
    | 0, _, q => exact ⟨by decide, by decide, by decide, by decide, by decide, ⟨by decide, by decide⟩, fun d hd => q d (kind0 hd)⟩
    | 1, _, q => exact ⟨by decide, by decide, by decide, by decide, by decide, ⟨by decide, by decide⟩, q⟩
    | 2, _, q => exact ⟨by decide, by decide, by decide, by decide, by decide, ⟨by decide, by decide⟩, q⟩
    | 3, _, q => exact ⟨by decide, by decide, by decide, by decide, by decide, ⟨by decide, by decide⟩, q⟩
  · exact q.elim
end
end PP

set_option Elab.async false
set_option linter.all false
set_option maxRecDepth 100000
set_option maxHeartbeats 2000000
namespace PP
open PySem PySem.Spec PyProof.Rows L2
section
variable {P : Program} {w : World} {K : PySem.W.Frag} {mg : Str → Option Value} {base : Heap}
abbrev s_law_step : Stmt := topS 15
theorem sc_law_step : FnScope ["deck", "at", "near", "some", "many", "k"] ["deck", "at", "near"] (defScope s_law_step) := ⟨rfl, rfl, rfl, by decide +kernel, rfl, by decide +kernel, by decide +kernel⟩
theorem d_law_step (m : Nm K mg) (h : Hd K mg "_law_step" s_law_step ["deck", "at", "near"]) (c_law_pick : Cl P w K mg base 2 "_law_pick" ["deck", "items"] [.dk, .val] kPick) (c_law_kind : Cl P w K mg base 3 "_law_kind" ["deck", "many"] [.dk, .val] kKind) : Cl P w K mg base 4 "_law_step" ["deck", "at", "near"] [.dk, .val, .val] kStep := by
  have nd := sc_law_step.nd
  refine clD (N := ["deck", "at", "near", "some", "many", "k"]) (M := [.dk, .val, .val, .val, .val, .val]) h sc_law_step kStep_mono rfl rfl rfl (by decide) ⟨_, fun f cdv A outer s H E e hr hg => have hu := hr.units; have hu8 := hr.un80;
    (dss_cons (ds_st (i := 3) nd rfl (DE.se (FE.de (fe_listRg2 (by rfl) (by rfl) m.nlist (by rfl) m.nrange (DE.re (de_max2 (by rfl) (by rfl) m.nmax (ar_cons (DE.re de_int) (ar_cons (DE.re (de_sub (rv 1) (rv 2))) ar_nil)))) (rv 1)))))
  (dss_cons (ds_st (i := 4) nd rfl (DE.se (de_if (dc_gt (rv 1) (DE.re de_int)) (cl c_law_pick (hr.mono (by decide)) hg (gdk 0 (ga_val (FE.de (fe_lst (ae_cons de_int (ae_cons de_int (ae_cons de_int (ae_cons de_int (ae_cons de_int (ae_cons de_int (ae_cons de_int ae_nil))))))))) ga_nil))) de_int)))
  (dss_one (ds_ret (de_tup (ae_cons (cl c_law_kind (hr.mono (by decide)) hg (gdk 0 (ga_val (dv 4) ga_nil))) (ae_cons (de_tuple (by rfl) m.ntuple (ar_cons (DE.re (FE.de (fe_comp (own := [("k", 5)]) (by rfl) nd (di_range1 (by rfl) m.nrange (rv 4)) (by exact blkOk_by (by kernel_rfl)) (fun _ _ _ _ _ => (gn (L := [5]) 5 nd)) (fun _ _ _ _ _ => dts_nil) (fun _ _ _ _ _ => (cl c_law_pick (hr.mono (by decide)) hg (gdk 0 (ga_val (dv 3) ga_nil))))))) ar_nil)) ae_nil))))))), fun ds Q q => ?_⟩
  unfold kStep at q
  split at q
  · obtain ⟨n, r, rfl, rfl, h1, h2, h3, q⟩ := q
    have key : ∀ (lo : Int) (ρ : En) (k : Nat), 0 ≤ lo → (0 < k → lo < n) → k ≤ 3 → gt ρ 0 ≠ none → gt ρ 3 = some (.list (rgD lo n)) → kKind [PyData.none, .int (k : Int)] fun x =>
        RgI k ∧ (rgD 0 k).length ≤ sizeLine ∧ compD (gN 5) tYesD (tCl kPick (tConsA (tDk 0) (tConsA (tV 3) tNilA))) (fun ds => 2 ≤ sizeLine ∧ Q (.tuple [x, .tuple ds])) ρ (rgD 0 k) [] := by
      intro lo ρ k h0 hl hk g0 g3
      refine ⟨k, rfl, hk, fun d hd => ⟨⟨by omega, by omega⟩, by rw [len_rgD]; have := line_big; omega, compD_rel (fun _ y => ∃ i, y = PyData.int i ∧ 0 ≤ i ∧ i < n) (fun x hx kk hkk => ?_) fun ys h => ⟨by decide, ?_⟩⟩⟩
      · obtain ⟨i, rfl, i0, i1⟩ := mem_rgD hx
        simp only [gN, tCl, tConsA, tDk, tV, tNilA, gt_sv]
        rw [if_neg (by decide), if_neg (by decide), g3]
        cases e0 : gt ρ 0 with
        | none => exact absurd e0 g0
        | some d0 =>
          refine ⟨⟨by rw [len_rgD]; have := hl (by omega); omega, by rw [len_rgD]; omega⟩, fun y hy => hkk y ?_⟩
          obtain ⟨i, e, a, b⟩ := mem_rgD hy
          exact ⟨i, e, by omega, b⟩
      · obtain ⟨is, e, hlen, hb⟩ := al_ints h
        rw [len_rgD] at hlen
        subst e
        have hz : is.length = k := by omega
        exact q (d, is) ⟨by show is.length ≤ 3; omega, by show d ∈ kindN is.length; rw [hz]; exact hd, hb⟩
    simp only [startD, List.length_cons, List.length_nil, List.map_cons, List.map_nil, List.replicate, List.cons_append, List.nil_append, Nat.sub_self, Nat.zero_add, Nat.add_sub_cancel, Nat.reduceAdd, Nat.reduceSub, gt, sv, tV, t2, tK, tCl, tConsA, tNilA, tDk, tSq, dSet, dPar, tIfD, tTst, tFz, tTupD, tLstD, tApp, dAppPop, tPut, tPop, tIdx, tSeqI, tYesD, tBor, dExt, wipeD, gN, gTupD, gConsD, gNilD, tComp, kLen, kInt, kAbs, kMax2, kTupl, kListF, kI, NoC, kEq, true_and, tSlF, tSl2, tAndD, tOrD, tAndE, tOrE, t1, kNeg, kIsN, id_eq]
    refine ⟨.of_le (by split <;> omega) (by omega) (by split <;> omega) (by omega), ?_⟩
    by_cases hn : (0 : Int) < n
    · rw [if_pos (by simpa using hn)]
      refine ⟨by decide, ⟨by simp, by simp⟩, fun x hx => ?_⟩
      have : ∃ k : Nat, x = .int (k : Int) ∧ k ≤ 3 := by
        simp only [List.mem_cons, List.not_mem_nil, or_false] at hx
        rcases hx with h | h | h | h | h | h | h <;> exact ⟨_, h, by decide⟩
      obtain ⟨k, rfl, hk⟩ := this
      exact key _ _ k (by split <;> omega) (fun _ => by split <;> omega) hk (by simp [gt]) rfl
    · rw [if_neg (by simpa using hn)]
      exact key _ _ 0 (by split <;> omega) (fun h => absurd h (by decide)) (by decide) (by simp [gt]) rfl
  · exact q.elim
abbrev s_law_grown : Stmt := topS 16
theorem sc_law_grown : FnScope ["deck", "most", "near", "at"] ["deck", "most"] (defScope s_law_grown) := ⟨rfl, rfl, rfl, by decide +kernel, rfl, by decide +kernel, by decide +kernel⟩
theorem d_law_grown (m : Nm K mg) (h : Hd K mg "_law_grown" s_law_grown ["deck", "most"]) (c_law_pick : Cl P w K mg base 2 "_law_pick" ["deck", "items"] [.dk, .val] kPick) (c_law_step : Cl P w K mg base 4 "_law_step" ["deck", "at", "near"] [.dk, .val, .val] kStep) (c_law_draw : Cl P w K mg base 1 "_law_draw" ["deck", "bound"] [.dk, .val] kDraw) : Cl P w K mg base 5 "_law_grown" ["deck", "most"] [.dk, .val] kGrown := by
  have nd := sc_law_grown.nd
  refine clD (N := ["deck", "most", "near", "at"]) (M := [.dk, .val, .val, .val]) h sc_law_grown kGrown_mono rfl rfl rfl (by decide) ⟨_, fun f cdv A outer s H E e hr hg => have hu := hr.units; have hu8 := hr.un80;
    (dss_cons (ds_st (i := 2) nd rfl (DE.se (cl c_law_pick (hr.mono (by decide)) hg (gdk 0 (ga_val (FE.de (fe_lst (ae_cons de_int (ae_cons de_int (ae_cons de_int (ae_cons de_int ae_nil)))))) ga_nil)))))
  (dss_one (ds_ret (de_tuple (by rfl) m.ntuple (ar_cons (DE.re (FE.de (fe_comp (own := [("at", 3)]) (by rfl) nd (di_range1 (by rfl) m.nrange (DE.re (de_add (DE.re de_int) (DE.re (cl c_law_draw (hr.mono (by decide)) hg (gdk 0 (ga_val (dv 1) ga_nil))))))) (by exact blkOk_by (by kernel_rfl)) (fun _ _ _ _ _ => (gn (L := [3]) 3 nd)) (fun _ _ _ _ _ => dts_nil) (fun _ _ _ _ _ => (cl c_law_step (hr.mono (by decide)) hg (gdk 0 (ga_val (dv 3) (ga_val (dv 2) ga_nil)))))))) ar_nil))))), fun ds Q q => ?_⟩
  unfold kGrown at q
  split at q
  · obtain ⟨n, rfl, h1, h2, q⟩ := q
    simp only [startD, List.length_cons, List.length_nil, List.map_cons, List.map_nil, List.replicate, List.cons_append, List.nil_append, Nat.sub_self, Nat.zero_add, Nat.add_sub_cancel, Nat.reduceAdd, Nat.reduceSub, gt, sv, tV, t2, tK, tCl, tConsA, tNilA, tDk, tSq, dSet, dPar, tIfD, tTst, tFz, tTupD, tLstD, tApp, dAppPop, tPut, tPop, tIdx, tSeqI, tYesD, tBor, dExt, wipeD, gN, gTupD, gConsD, gNilD, tComp, kLen, kInt, kAbs, kMax2, kTupl, kListF, kI, NoC, kEq, true_and, tSlF, tSl2, tAndD, tOrD, tAndE, tOrE, t1, kNeg, kIsN, id_eq]
    refine ⟨by decide, ⟨by simp, by simp⟩, fun x hx => ?_⟩
    have : ∃ r : Nat, x = .int (r : Int) ∧ 1 ≤ r ∧ r ≤ 10 := by
      simp only [List.mem_cons, List.not_mem_nil, or_false] at hx
      rcases hx with h | h | h | h <;> exact ⟨_, h, by decide, by decide⟩
    obtain ⟨r, rfl, hr1, hr2⟩ := this
    refine ⟨⟨by omega, by omega⟩, fun y y0 y1 => ?_⟩
    obtain ⟨z, rfl, hz⟩ := nat_ix y0 y1
    show RgI (1 + (z : Int)) ∧ _
    have hl := line_big
    refine ⟨⟨by omega, by omega⟩, by rw [len_rgD]; omega, ?_⟩
    refine compD_step (fun rest acc => ∃ w : List SD, acc = w.map stD ∧ rest = rgD w.length (1 + (z : Int)) ∧ w.length ≤ z + 1 ∧ ∀ i s, w[i]? = some s → StOk i s) ⟨[], rfl, rfl, by simp, by simp⟩ ?_ ?_
    · rintro x rest acc k ⟨w, rfl, e, hw, ok⟩ hk
      have lt : w.length < z + 1 := by
        have := congrArg List.length e
        rw [len_rgD, List.length_cons] at this
        omega
      rw [rgD_cons (by omega)] at e
      obtain ⟨rfl, rfl⟩ := List.cons.inj e
      simp only [startD, List.length_cons, List.length_nil, List.map_cons, List.map_nil, List.replicate, List.cons_append, List.nil_append, Nat.sub_self, Nat.zero_add, Nat.add_sub_cancel, Nat.reduceAdd, Nat.reduceSub, gt, sv, tV, t2, tK, tCl, tConsA, tNilA, tDk, tSq, dSet, dPar, tIfD, tTst, tFz, tTupD, tLstD, tApp, dAppPop, tPut, tPop, tIdx, tSeqI, tYesD, tBor, dExt, wipeD, gN, gTupD, gConsD, gNilD, tComp, kLen, kInt, kAbs, kMax2, kTupl, kListF, kI, NoC, kEq, true_and, tSlF, tSl2, tAndD, tOrD, tAndE, tOrE, t1, kNeg, kIsN, id_eq]
      refine ⟨w.length, r, rfl, rfl, by omega, hr1, by omega, fun s hs => ?_⟩
      refine hk _ ⟨w ++ [s], by simp, by simp, by simp; omega, fun i t ht => ?_⟩
      by_cases hi : i < w.length
      · rw [List.getElem?_append_left hi] at ht; exact ok i t ht
      · rw [List.getElem?_append_right (by omega)] at ht
        have : i - w.length = 0 := by
          by_cases c : i - w.length = 0
          · exact c
          · rw [List.getElem?_eq_none (by simp; omega)] at ht; cases ht
        rw [this] at ht
        cases ht
        have : i = w.length := by omega
        rw [this]; exact hs
    · rintro acc ⟨w, rfl, e, hw, ok⟩
      have : w.length = z + 1 := by
        have := congrArg List.length e
        rw [len_rgD] at this
        simp at this
        omega
      exact q w ⟨by omega, by omega, ok⟩
  · exact q.elim
abbrev s_law_web : Stmt := topS 18
theorem sc_law_web : FnScope ["deck", "most", "web"] ["deck", "most"] (defScope s_law_web) := ⟨rfl, rfl, rfl, by decide +kernel, rfl, by decide +kernel, by decide +kernel⟩
theorem d_law_web (m : Nm K mg) (h : Hd K mg "_law_web" s_law_web ["deck", "most"]) (c_law_grown : Cl P w K mg base 5 "_law_grown" ["deck", "most"] [.dk, .val] kGrown) (c_law_draw : Cl P w K mg base 1 "_law_draw" ["deck", "bound"] [.dk, .val] kDraw) (c_law_rowed : Cl P w K mg base 5 "_law_rowed" ["deck", "most"] [.dk, .val] kRowed) (c_law_numbered : Cl P w K mg base 2 "_law_numbered" ["web", "row"] [.val, .val] kNumb) (c_law_mixed : Cl P w K mg base 2 "_law_mixed" ["deck", "items"] [.dk, .val] kMixed) : Cl P w K mg base 6 "_law_web" ["deck", "most"] [.dk, .val] kWeb := by
  have nd := sc_law_web.nd
  refine clD (N := ["deck", "most", "web"]) (M := [.dk, .val, .val]) h sc_law_web kWeb_mono rfl rfl rfl (by decide) ⟨_, fun f cdv A outer s H E e hr hg => have hu := hr.units; have hu8 := hr.un80;
    (dss_cons (ds_st (i := 2) nd rfl (DE.se (cl c_law_grown (hr.mono (by decide)) hg (gdk 0 (ga_val (dv 1) ga_nil)))))
  (dss_cons (ds_if (dc_eq hu (DE.re (cl c_law_draw (hr.mono (by decide)) hg (gdk 0 (ga_val de_int ga_nil)))) (DE.re de_int)) (dss_one (ds_st (i := 2) nd rfl (DE.se (cl c_law_rowed (hr.mono (by decide)) hg (gdk 0 (ga_val (dv 1) ga_nil)))))) dss_nil)
  (dss_one (ds_ret (de_if (dc_eq hu (DE.re (cl c_law_draw (hr.mono (by decide)) hg (gdk 0 (ga_val de_int ga_nil)))) (DE.re de_int)) (cl c_law_numbered (hr.mono (by decide)) hg (ga_val (dv 2) (ga_val (cl c_law_mixed (hr.mono (by decide)) hg (gdk 0 (ga_val (FE.de (fe_listRg1 (by rfl) (by rfl) m.nlist (by rfl) m.nrange (DE.re (de_len (by rfl) m.nlen (ar_cons (rv 2) ar_nil))))) ga_nil))) ga_nil))) (dv 2)))))), fun ds Q q => ?_⟩
  unfold kWeb at q
  split at q
  · obtain ⟨n, rfl, h1, h2, q⟩ := q
    have hl := line_big
    have tail : ∀ w, Grown n w → kDraw [PyData.none, PyData.int 2] fun x_2 =>
            (SeqAt.shaped x_2 = true ∧ SeqAt.shaped (PyData.int 0) = true) ∧
              if PyData.eqv x_2 (PyData.int 0) = true then
                  RgOk 0 ↑(w.map stD).length ∧ kMixed [PyData.none, PyData.list (rgD 0 ↑(w.map stD).length)] fun x_3 => kNumb [webD w, x_3] Q
              else Q (webD w) := by
      intro w hw
      refine ⟨⟨by decide, by decide⟩, fun y _ _ => ⟨⟨by rfl, by rfl⟩, ?_⟩⟩
      split
      · rw [List.length_map]
        refine ⟨.of_le (by omega) (by have := hw.2.1; omega) (by omega) (by omega), ?_, ?_⟩
        · rw [len_rgD]; have := hw.2.1; omega
        · intro ys hp
          have e : rgD 0 (w.length : Int) = (rowI (List.range w.length)).map PyData.int := by simp [rgD, rowI]
          rw [e] at hp
          obtain ⟨row, hr, rfl⟩ := perm_row hp
          exact ⟨w, row, rfl, hr, by have := hw.2.1; omega, hw.wb.2.2.1, q _ (numb_wb hw.wb hr)⟩
      · exact q w hw.wb
    simp only [startD, List.length_cons, List.length_nil, List.map_cons, List.map_nil, List.replicate, List.cons_append, List.nil_append, Nat.sub_self, Nat.zero_add, Nat.add_sub_cancel, Nat.reduceAdd, Nat.reduceSub, gt, sv, tV, t2, tK, tCl, tConsA, tNilA, tDk, tSq, dSet, dPar, tIfD, tTst, tFz, tTupD, tLstD, tApp, dAppPop, tPut, tPop, tIdx, tSeqI, tYesD, tBor, dExt, wipeD, gN, gTupD, gConsD, gNilD, tComp, kLen, kInt, kAbs, kMax2, kTupl, kListF, kI, NoC, kEq, true_and, tSlF, tSl2, tAndD, tOrD, tAndE, tOrE, t1, kNeg, kIsN, id_eq]
    refine ⟨n, rfl, h1, h2, fun w hw => ⟨⟨by decide, by decide⟩, fun y _ _ => ⟨⟨by rfl, by rfl⟩, ?_⟩⟩⟩
    split
    · exact ⟨n, rfl, h1, h2, tail⟩
    · exact tail w hw
  · exact q.elim
end
end PP

set_option Elab.async false
set_option linter.all false
set_option maxRecDepth 100000
set_option maxHeartbeats 2000000
namespace PP
open PySem PySem.Spec PyProof.Rows L2
section
variable {P : Program} {w : World} {K : PySem.W.Frag} {mg : Str → Option Value} {base : Heap}
abbrev s_law_numbered : Stmt := topS 17
theorem sc_law_numbered : FnScope ["web", "row", "places", "step", "one"] ["web", "row"] (defScope s_law_numbered) := ⟨rfl, rfl, rfl, by decide +kernel, rfl, by decide +kernel, by decide +kernel⟩
theorem d_law_numbered (m : Nm K mg) (h : Hd K mg "_law_numbered" s_law_numbered ["web", "row"])  : Cl P w K mg base 2 "_law_numbered" ["web", "row"] [.val, .val] kNumb := by
  have nd := sc_law_numbered.nd
  refine clD (N := ["web", "row", "places", "step", "one"]) (M := [.val, .val, .val, .val, .val]) h sc_law_numbered kNumb_mono rfl rfl rfl (by decide) ⟨_, fun f cdv A outer s H E e hr hg => have hu := hr.units; have hu8 := hr.un80;
    (dss_cons (ds_st (i := 2) nd rfl (DE.se (FE.de (fe_comp (own := [("step", 3)]) (by rfl) nd (di_range1 (by rfl) m.nrange (DE.re (de_len (by rfl) m.nlen (ar_cons (rv 0) ar_nil)))) (by exact blkOk_by (by kernel_rfl)) (fun _ _ _ _ _ => (gn (L := [3]) 3 nd)) (fun _ _ _ _ _ => dts_nil) (fun _ _ _ _ _ => (de_index (rv 1) (rv 3)))))))
  (dss_one (ds_ret (de_tuple (by rfl) m.ntuple (ar_cons (DE.re (FE.de (fe_comp (own := [("step", 3)]) (by rfl) nd (di_seq (dv 1)) (by exact blkOk_by (by kernel_rfl)) (fun _ _ _ _ _ => (gn (L := [3]) 3 nd)) (fun _ _ _ _ _ => dts_nil) (fun _ _ _ _ _ => (de_tup (ae_cons (de_item (DE.re (de_item (rv 0) (rv 3) (fun _ _ => rfl))) (DE.re de_int) (fun _ _ => rfl)) (ae_cons (de_tuple (by rfl) m.ntuple (ar_cons (DE.re (FE.de (fe_comp (own := [("one", 4)]) (by rfl) nd (di_seq (de_item (DE.re (de_item (rv 0) (rv 3) (fun _ _ => rfl))) (DE.re de_int) (fun _ _ => rfl))) (by exact blkOk_by (by kernel_rfl)) (fun _ _ _ _ _ => (gn (L := [4]) 4 nd)) (fun _ _ _ _ _ => dts_nil) (fun _ _ _ _ _ => (de_item (rv 2) (rv 4) (fun _ _ => rfl)))))) ar_nil)) ae_nil))))))) ar_nil))))), fun ds Q q => ?_⟩
  obtain ⟨w, row, rfl, hp, hn, hw, q⟩ := q
  have hl := line_big
  have hlen : row.length = w.length := by rw [hp.length_eq, List.length_range]
  have mem : ∀ k, k ∈ row ↔ k < w.length := fun k => by rw [hp.mem_iff, List.mem_range]
  have ix : ∀ k, k < w.length → row.idxOf k < row.length := fun k hk => List.idxOf_lt_length_of_mem ((mem k).mpr hk)
  simp only [startD, List.length_cons, List.length_nil, List.map_cons, List.map_nil, List.replicate, List.cons_append, List.nil_append, Nat.sub_self, Nat.zero_add, Nat.add_sub_cancel, Nat.reduceAdd, Nat.reduceSub, gt, sv, tV, t2, tK, tCl, tConsA, tNilA, tDk, tSq, dSet, dPar, tIfD, tTst, tFz, tTupD, tLstD, tApp, dAppPop, tPut, tPop, tIdx, tSeqI, tYesD, tBor, dExt, wipeD, gN, gTupD, gConsD, gNilD, tComp, kLen, kInt, kAbs, kMax2, kTupl, kListF, kI, NoC, kEq, true_and, tSlF, tSl2, tAndD, tOrD, tAndE, tOrE, t1, kNeg, kIsN, id_eq]
  rw [List.length_map]
  refine ⟨⟨by omega, by omega⟩, by rw [len_rgD]; omega, ?_⟩
  refine compD_map (fun d => match d with | .int i => .int ((row.idxOf i.toNat : Nat) : Int) | d => d) (fun x hx k hk => ?_) ?_
  · obtain ⟨i, rfl, h0, h1⟩ := mem_rgD hx
    obtain ⟨i, rfl, hi⟩ := nat_ix h0 h1
    simp only [startD, List.length_cons, List.length_nil, List.map_cons, List.map_nil, List.replicate, List.cons_append, List.nil_append, Nat.sub_self, Nat.zero_add, Nat.add_sub_cancel, Nat.reduceAdd, Nat.reduceSub, gt, sv, tV, t2, tK, tCl, tConsA, tNilA, tDk, tSq, dSet, dPar, tIfD, tTst, tFz, tTupD, tLstD, tApp, dAppPop, tPut, tPop, tIdx, tSeqI, tYesD, tBor, dExt, wipeD, gN, gTupD, gConsD, gNilD, tComp, kLen, kInt, kAbs, kMax2, kTupl, kListF, kI, NoC, kEq, true_and, tSlF, tSl2, tAndD, tOrD, tAndE, tOrE, t1, kNeg, kIsN, id_eq]
    have lt := ix i hi
    refine ⟨rowI row, row.idxOf i, rfl, ?_, fun m hm hz => ?_, hk⟩
    · unfold rowI
      rw [List.getElem?_map, List.getElem?_eq_getElem lt]
      simp
    · unfold rowI at hz
      rw [List.getElem?_map] at hz
      have lm : m < row.length := by omega
      rw [List.getElem?_eq_getElem lm] at hz
      have e : row[m] = i := by
        have hz : ((row[m] : Nat) : Int) = (i : Int) := by simpa using hz
        omega
      have := List.not_of_lt_findIdx (p := (· == i)) (xs := row) (i := m) hm
      simp [e] at this
  · refine ⟨by simp [rowI]; omega, ?_⟩
    refine compD_map (fun d => match d with | .int s => stD ((w.getD s.toNat (.none, [])).1, (w.getD s.toNat (.none, [])).2.map fun o => ((row.idxOf o.toNat : Nat) : Int)) | d => d) (fun x hx k hk => ?_) ?_
    · obtain ⟨z, hz, rfl⟩ := List.mem_map.mp hx
      unfold rowI at hz
      obtain ⟨s, hs, rfl⟩ := List.mem_map.mp hz
      have sl := (mem s).mp hs
      have e : w.getD s (.none, []) = w[s] := by rw [List.getD_eq_getElem?_getD, List.getElem?_eq_getElem sl]; rfl
      simp only [Int.toNat_natCast, e] at hk
      simp only [startD, List.length_cons, List.length_nil, List.map_cons, List.map_nil, List.replicate, List.cons_append, List.nil_append, Nat.sub_self, Nat.zero_add, Nat.add_sub_cancel, Nat.reduceAdd, Nat.reduceSub, gt, sv, tV, t2, tK, tCl, tConsA, tNilA, tDk, tSq, dSet, dPar, tIfD, tTst, tFz, tTupD, tLstD, tApp, dAppPop, tPut, tPop, tIdx, tSeqI, tYesD, tBor, dExt, wipeD, gN, gTupD, gConsD, gNilD, tComp, kLen, kInt, kAbs, kMax2, kTupl, kListF, kI, NoC, kEq, true_and, tSlF, tSl2, tAndD, tOrD, tAndE, tOrE, t1, kNeg, kIsN, id_eq]
      refine kIx_t (by simpa using sl) ?_
      rw [List.getElem_map]
      refine kIx_t (j := 0) (by simp) ?_
      refine kIx_t (by simpa using sl) ?_
      rw [List.getElem_map]
      refine kIx_t (j := 1) (by simp) ?_
      obtain ⟨b1, b2, b3⟩ := hw w[s] (List.getElem_mem sl)
      show _ ≤ _ ∧ _
      refine ⟨by simp; omega, compD_map (fun d => match d with | .int o => .int ((row.idxOf o.toNat : Nat) : Int) | d => d) (fun x hx k hk => ?_) ?_⟩
      · obtain ⟨o, ho, rfl⟩ := List.mem_map.mp hx
        obtain ⟨o0, o1⟩ := b3 o ho
        obtain ⟨o, rfl, ol⟩ := nat_ix o0 o1
        simp only [startD, List.length_cons, List.length_nil, List.map_cons, List.map_nil, List.replicate, List.cons_append, List.nil_append, Nat.sub_self, Nat.zero_add, Nat.add_sub_cancel, Nat.reduceAdd, Nat.reduceSub, gt, sv, tV, t2, tK, tCl, tConsA, tNilA, tDk, tSq, dSet, dPar, tIfD, tTst, tFz, tTupD, tLstD, tApp, dAppPop, tPut, tPop, tIdx, tSeqI, tYesD, tBor, dExt, wipeD, gN, gTupD, gConsD, gNilD, tComp, kLen, kInt, kAbs, kMax2, kTupl, kListF, kI, NoC, kEq, true_and, tSlF, tSl2, tAndD, tOrD, tAndE, tOrE, t1, kNeg, kIsN, id_eq]
        refine kIx_l (by simp [len_rgD]; omega) ?_
        simp [rgD]
        simpa using hk
      · refine ⟨by decide, ?_⟩
        have e2 : stD (w[s].1, w[s].2.map fun o => ((row.idxOf o.toNat : Nat) : Int)) = .tuple [w[s].1, .tuple ((w[s].2.map PyData.int).map fun d => match d with | .int o => .int ((row.idxOf o.toNat : Nat) : Int) | d => d)] := by
          simp [stD, tupI, List.map_map]
        rw [e2] at hk
        exact hk
    · have e2 : webD (numb w row) = .tuple (((rowI row).map PyData.int).map fun d => match d with | .int s => stD ((w.getD s.toNat (.none, [])).1, (w.getD s.toNat (.none, [])).2.map fun o => ((row.idxOf o.toNat : Nat) : Int)) | d => d) := by
        simp [webD, numb, rowI, List.map_map]
      rw [e2] at q
      exact q
abbrev s_law_rowed : Stmt := topS 19
theorem sc_law_rowed : FnScope ["deck", "most", "found", "pile", "at", "many"] ["deck", "most"] (defScope s_law_rowed) := ⟨rfl, rfl, rfl, by decide +kernel, rfl, by decide +kernel, by decide +kernel⟩
theorem d_law_rowed (m : Nm K mg) (h : Hd K mg "_law_rowed" s_law_rowed ["deck", "most"]) (c_law_pick : Cl P w K mg base 2 "_law_pick" ["deck", "items"] [.dk, .val] kPick) (c_law_draw : Cl P w K mg base 1 "_law_draw" ["deck", "bound"] [.dk, .val] kDraw) (c_law_kind : Cl P w K mg base 3 "_law_kind" ["deck", "many"] [.dk, .val] kKind) (c_law_mixed : Cl P w K mg base 2 "_law_mixed" ["deck", "items"] [.dk, .val] kMixed) : Cl P w K mg base 5 "_law_rowed" ["deck", "most"] [.dk, .val] kRowed := by
  have nd := sc_law_rowed.nd
  refine clD (N := ["deck", "most", "found", "pile", "at", "many"]) (M := [.dk, .val, .own, .val, .val, .val]) h sc_law_rowed kRowed_mono rfl rfl rfl (by decide) ⟨_, fun f cdv A outer s H E e hr hg => have hu := hr.units; have hu8 := hr.un80;
    (dss_cons (ds_par (i := 2) (j := 3) (by rfl) nd rfl rfl (FE.se (fe_lst ae_nil)) (DE.se (FE.de (fe_lst ae_nil))))
  (dss_cons (ds_for (L := [4]) PassesOwn.never (by rfl) (di_range1 (by rfl) m.nrange (DE.re (de_add (DE.re de_int) (DE.re (cl c_law_draw (hr.mono (by decide)) hg (gdk 0 (ga_val (dv 1) ga_nil))))))) (fun _ => (gn (L := [4]) 4 nd)) (fun _ => (dss_cons (ds_st (i := 5) nd rfl (DE.se (cl c_law_pick (hr.mono (by decide)) hg (gdk 0 (ga_val (FE.de (fe_lst (ae_cons de_int (ae_cons de_int (ae_cons de_int (ae_cons de_int (ae_cons de_int (ae_cons de_int (ae_cons de_int ae_nil))))))))) ga_nil)))))
  (dss_cons (ds_st (i := 5) nd rfl (DE.se (de_if (dc_le (rv 5) (DE.re (de_len (by rfl) m.nlen (ar_cons (rv 3) ar_nil)))) (dv 5) de_int)))
  (dss_cons (dapp 2 (de_tup (ae_cons (cl c_law_kind (hr.mono (by decide)) hg (gdk 0 (ga_val (dv 5) ga_nil))) (ae_cons (de_tuple (by rfl) m.ntuple (ar_cons (DE.re (cl c_law_mixed (hr.mono (by decide)) hg (gdk 0 (ga_val (de_slice (rv 3) (dp_some (DE.re (de_sub (DE.re (de_len (by rfl) m.nlen (ar_cons (rv 3) ar_nil))) (rv 5)))) dp_none) ga_nil)))) ar_nil)) ae_nil))))
  (dss_one (ds_st (i := 3) nd rfl (DE.se (de_add (DE.re (de_slice (rv 3) dp_none (dp_some (DE.re (de_sub (DE.re (de_len (by rfl) m.nlen (ar_cons (rv 3) ar_nil))) (rv 5)))))) (DE.re (de_mul (DE.re (FE.de (fe_lst (ae_cons (dv 4) ae_nil)))) (DE.re (cl c_law_pick (hr.mono (by decide)) hg (gdk 0 (ga_val (FE.de (fe_lst (ae_cons de_int (ae_cons de_int (ae_cons de_int (ae_cons de_int (ae_cons de_int (ae_cons de_int (ae_cons de_int ae_nil))))))))) ga_nil)))))))))))))))
  (dss_one (ds_ret (de_tuple (by rfl) m.ntuple (ar_cons (rv 2) ar_nil)))))), fun ds Q q => ?_⟩
  unfold kRowed kGrown at q
  split at q
  · obtain ⟨n, rfl, h1, h2, q⟩ := q
    have hl := line_big
    simp only [startD, List.length_cons, List.length_nil, List.map_cons, List.map_nil, List.replicate, List.cons_append, List.nil_append, Nat.sub_self, Nat.zero_add, Nat.add_sub_cancel, Nat.reduceAdd, Nat.reduceSub, gt, sv, tV, t2, tK, tCl, tConsA, tNilA, tDk, tSq, dSet, dPar, tIfD, tTst, tFz, tTupD, tLstD, tApp, dAppPop, tPut, tPop, tIdx, tSeqI, tYesD, tBor, dExt, wipeD, gN, gTupD, gConsD, gNilD, tComp, kLen, kInt, kAbs, kMax2, kTupl, kListF, kI, NoC, kEq, true_and, tSlF, tSl2, tAndD, tOrD, tAndE, tOrE, t1, kNeg, kIsN, id_eq]
    refine ⟨by decide, by decide, ⟨by omega, by omega⟩, fun y y0 y1 => ?_⟩
    obtain ⟨z, rfl, hz⟩ := nat_ix y0 y1
    show RgI (1 + (z : Int)) ∧ _
    refine ⟨⟨by omega, by omega⟩, ?_⟩
    refine forD_step (fun rest ρ => ∃ (dk : D) (w : List SD) (pile : List Int) (o1 o2 : Option D), ρ = [some dk, some (.int (n : Int)), some (.list (w.map stD)), some (.list (pile.map PyData.int)), o1, o2] ∧ rest = rgD w.length (1 + (z : Int)) ∧ w.length ≤ z + 1 ∧
      (∀ i s, w[i]? = some s → StOk i s) ∧ (∀ i ∈ pile, 0 ≤ i ∧ i < w.length) ∧ pile.length ≤ 3 * w.length) ⟨_, [], [], none, none, rfl, rfl, by simp, by simp, by simp, by simp⟩ ?_ ?_
    · rintro x rest ρ k ⟨dk, w, pile, o1, o2, rfl, e, hw, ok, hpi, hpl⟩ hk
      have lt : w.length < z + 1 := by
        have := congrArg List.length e
        rw [len_rgD, List.length_cons] at this
        omega
      rw [rgD_cons (by omega)] at e
      obtain ⟨rfl, rfl⟩ := List.cons.inj e
      simp only [startD, List.length_cons, List.length_nil, List.map_cons, List.map_nil, List.replicate, List.cons_append, List.nil_append, Nat.sub_self, Nat.zero_add, Nat.add_sub_cancel, Nat.reduceAdd, Nat.reduceSub, gt, sv, tV, t2, tK, tCl, tConsA, tNilA, tDk, tSq, dSet, dPar, tIfD, tTst, tFz, tTupD, tLstD, tApp, dAppPop, tPut, tPop, tIdx, tSeqI, tYesD, tBor, dExt, wipeD, gN, gTupD, gConsD, gNilD, tComp, kLen, kInt, kAbs, kMax2, kTupl, kListF, kI, NoC, kEq, true_and, tSlF, tSl2, tAndD, tOrD, tAndE, tOrE, t1, kNeg, kIsN, id_eq]
      refine ⟨by decide, ⟨by simp, by simp⟩, fun x hx => ?_⟩
      have : ∃ r : Nat, x = .int (r : Int) ∧ r ≤ 3 := by
        simp only [List.mem_cons, List.not_mem_nil, or_false] at hx
        rcases hx with h | h | h | h | h | h | h <;> exact ⟨_, h, by decide⟩
      obtain ⟨r, rfl, hr⟩ := this
      simp only [startD, List.length_cons, List.length_nil, List.map_cons, List.map_nil, List.replicate, List.cons_append, List.nil_append, Nat.sub_self, Nat.zero_add, Nat.add_sub_cancel, Nat.reduceAdd, Nat.reduceSub, gt, sv, tV, t2, tK, tCl, tConsA, tNilA, tDk, tSq, dSet, dPar, tIfD, tTst, tFz, tTupD, tLstD, tApp, dAppPop, tPut, tPop, tIdx, tSeqI, tYesD, tBor, dExt, wipeD, gN, gTupD, gConsD, gNilD, tComp, kLen, kInt, kAbs, kMax2, kTupl, kListF, kI, NoC, kEq, true_and, tSlF, tSl2, tAndD, tOrD, tAndE, tOrE, t1, kNeg, kIsN, id_eq]
      by_cases hc : (r : Int) ≤ ((pile.map PyData.int).length : Int)
      · rw [if_pos (by simpa using hc)]
        rw [List.length_map] at hc
        refine ⟨r, rfl, hr, fun d hd => ?_⟩
        have e1 : ((pile.map PyData.int).length : Int) - (r : Nat) = ((pile.length - r : Nat) : Int) := by rw [List.length_map]; omega
        have c1 := cut_from (xs := pile.map PyData.int) (k := pile.length - r) (by rw [List.length_map]; omega)
        have c2 := cut_to (xs := pile.map PyData.int) (k := pile.length - r) (by rw [List.length_map]; omega)
        simp only [e1, c1, c2]
        refine ⟨by rw [List.length_drop, List.length_map]; omega, fun ys hp => ?_⟩
        rw [← List.map_drop] at hp
        obtain ⟨is, his, rfl⟩ := perm_map _ hp
        have hz : is.length = r := by rw [his.length_eq, List.length_drop]; omega
        refine ⟨by decide, by rw [List.length_map]; omega, by decide, by decide, ⟨by simp, by simp⟩, fun y hy => ?_⟩
        have : ∃ r2 : Nat, y = .int (r2 : Int) ∧ r2 ≤ 3 := by
          simp only [List.mem_cons, List.not_mem_nil, or_false] at hy
          rcases hy with h | h | h | h | h | h | h <;> exact ⟨_, h, by decide⟩
        obtain ⟨r2, rfl, hr2⟩ := this
        refine ⟨⟨by omega, by omega, by rw [List.length_singleton, Int.toNat_natCast]; omega⟩, ?_⟩
        have e3 : repD (r2 : Int) [PyData.int (w.length : Int)] = (List.replicate r2 (w.length : Int)).map PyData.int := by
          unfold repD
          rw [Int.toNat_natCast, List.flatten_replicate_singleton, List.map_replicate]
        rw [e3]
        refine ⟨by rw [List.length_take, List.length_map, List.length_map, List.length_replicate]; omega, hk _ ⟨dk, w ++ [(d, is)], pile.take (pile.length - r) ++ List.replicate r2 (w.length : Int), some (.int (w.length : Int)), some (.int (r : Int)), ?_, ?_, ?_, ?_, ?_, ?_⟩⟩
        · simp [List.map_take, stD, tupI]
          first | rfl | exact ⟨rfl, rfl⟩ | exact List.take_of_length_le (by simp) | skip
        · simp
        · simp; omega
        · intro i t ht
          by_cases hi : i < w.length
          · rw [List.getElem?_append_left hi] at ht; exact ok i t ht
          · rw [List.getElem?_append_right (by omega)] at ht
            have z0 : i - w.length = 0 := by
              by_cases c : i - w.length = 0
              · exact c
              · rw [List.getElem?_eq_none (by simp; omega)] at ht; cases ht
            rw [z0] at ht
            cases ht
            have : i = w.length := by omega
            rw [this]
            refine ⟨by show is.length ≤ 3; omega, by show d ∈ kindN is.length; rw [hz]; exact hd, fun j hj => hpi j ?_⟩
            exact List.mem_of_mem_drop (his.mem_iff.mp hj)
        · intro i hi
          rw [List.length_append, List.length_singleton]
          rcases List.mem_append.mp hi with hi | hi
          · have := hpi i (List.mem_of_mem_take hi)
            omega
          · have := List.eq_of_mem_replicate hi
            omega
        · rw [List.length_append, List.length_take, List.length_replicate, List.length_append, List.length_singleton]
          omega
      · rw [if_neg (by simpa using hc)]
        refine ⟨0, rfl, by decide, fun d hd => ?_⟩
        have e1 : ((pile.map PyData.int).length : Int) - (0 : Nat) = ((pile.length - 0 : Nat) : Int) := by rw [List.length_map]; omega
        have c1 := cut_from (xs := pile.map PyData.int) (k := pile.length - 0) (by rw [List.length_map]; omega)
        have c2 := cut_to (xs := pile.map PyData.int) (k := pile.length - 0) (by rw [List.length_map]; omega)
        simp only [show ((pile.map PyData.int).length : Int) - 0 = ((pile.length - 0 : Nat) : Int) from e1, c1, c2]
        refine ⟨by rw [List.length_drop, List.length_map]; omega, fun ys hp => ?_⟩
        rw [← List.map_drop] at hp
        obtain ⟨is, his, rfl⟩ := perm_map _ hp
        have hz : is.length = 0 := by rw [his.length_eq, List.length_drop]; omega
        refine ⟨by decide, by rw [List.length_map]; omega, by decide, by decide, ⟨by simp, by simp⟩, fun y hy => ?_⟩
        have : ∃ r2 : Nat, y = .int (r2 : Int) ∧ r2 ≤ 3 := by
          simp only [List.mem_cons, List.not_mem_nil, or_false] at hy
          rcases hy with h | h | h | h | h | h | h <;> exact ⟨_, h, by decide⟩
        obtain ⟨r2, rfl, hr2⟩ := this
        refine ⟨⟨by omega, by omega, by rw [List.length_singleton, Int.toNat_natCast]; omega⟩, ?_⟩
        have e3 : repD (r2 : Int) [PyData.int (w.length : Int)] = (List.replicate r2 (w.length : Int)).map PyData.int := by
          unfold repD
          rw [Int.toNat_natCast, List.flatten_replicate_singleton, List.map_replicate]
        rw [e3]
        refine ⟨by rw [List.length_take, List.length_map, List.length_map, List.length_replicate]; omega, hk _ ⟨dk, w ++ [(d, is)], pile.take (pile.length - 0) ++ List.replicate r2 (w.length : Int), some (.int (w.length : Int)), some (.int 0), ?_, ?_, ?_, ?_, ?_, ?_⟩⟩
        · simp [List.map_take, stD, tupI]
          first | rfl | exact ⟨rfl, rfl⟩ | exact List.take_of_length_le (by simp) | skip
        · simp
        · simp; omega
        · intro i t ht
          by_cases hi : i < w.length
          · rw [List.getElem?_append_left hi] at ht; exact ok i t ht
          · rw [List.getElem?_append_right (by omega)] at ht
            have z0 : i - w.length = 0 := by
              by_cases c : i - w.length = 0
              · exact c
              · rw [List.getElem?_eq_none (by simp; omega)] at ht; cases ht
            rw [z0] at ht
            cases ht
            have : i = w.length := by omega
            rw [this]
            refine ⟨by show is.length ≤ 3; omega, by show d ∈ kindN is.length; rw [hz]; exact hd, fun j hj => hpi j ?_⟩
            exact List.mem_of_mem_drop (his.mem_iff.mp hj)
        · intro i hi
          rw [List.length_append, List.length_singleton]
          rcases List.mem_append.mp hi with hi | hi
          · have := hpi i (List.mem_of_mem_take hi)
            omega
          · have := List.eq_of_mem_replicate hi
            omega
        · rw [List.length_append, List.length_take, List.length_replicate, List.length_append, List.length_singleton]
          omega
    · rintro ρ ⟨dk, w, pile, o1, o2, rfl, e, hw, ok, hpi, hpl⟩
      have : w.length = z + 1 := by
        have := congrArg List.length e
        rw [len_rgD] at this
        simp at this
        omega
      simp only [startD, List.length_cons, List.length_nil, List.map_cons, List.map_nil, List.replicate, List.cons_append, List.nil_append, Nat.sub_self, Nat.zero_add, Nat.add_sub_cancel, Nat.reduceAdd, Nat.reduceSub, gt, sv, tV, t2, tK, tCl, tConsA, tNilA, tDk, tSq, dSet, dPar, tIfD, tTst, tFz, tTupD, tLstD, tApp, dAppPop, tPut, tPop, tIdx, tSeqI, tYesD, tBor, dExt, wipeD, gN, gTupD, gConsD, gNilD, tComp, kLen, kInt, kAbs, kMax2, kTupl, kListF, kI, NoC, kEq, true_and, tSlF, tSl2, tAndD, tOrD, tAndE, tOrE, t1, kNeg, kIsN, id_eq]
      exact q w ⟨by omega, by omega, ok⟩
  · exact q.elim
end
end PP

set_option Elab.async false
set_option linter.all false
set_option maxRecDepth 100000
set_option maxHeartbeats 2000000
namespace PP
open PySem PySem.Spec PyProof.Rows L2
section
variable {P : Program} {w : World} {K : PySem.W.Frag} {mg : Str → Option Value} {base : Heap}
abbrev s_law_ties : Stmt := topS 20
theorem sc_law_ties : FnScope ["web", "found", "taker", "inputs", "place"] ["web"] (defScope s_law_ties) := ⟨rfl, rfl, rfl, by decide +kernel, rfl, by decide +kernel, by decide +kernel⟩
theorem d_law_ties (m : Nm K mg) (h : Hd K mg "_law_ties" s_law_ties ["web"])  : Cl P w K mg base 2 "_law_ties" ["web"] [.val] kTiesL := by
  have nd := sc_law_ties.nd
  refine clD (N := ["web", "found", "taker", "inputs", "place"]) (M := [.val, .own, .val, .val, .val]) h sc_law_ties kTiesL_mono rfl rfl rfl (by decide) ⟨_, fun f cdv A outer s H E e hr hg => have hu := hr.units; have hu8 := hr.un80;
    (dss_cons (ds_st (i := 1) nd rfl (FE.se (fe_lst ae_nil)))
  (dss_cons (ds_for (L := [2]) PassesOwn.never (by rfl) (di_range1 (by rfl) m.nrange (DE.re (de_len (by rfl) m.nlen (ar_cons (rv 0) ar_nil)))) (fun _ => (gn (L := [2]) 2 nd)) (fun _ => (dss_cons (ds_st (i := 3) nd rfl (DE.se (de_item (DE.re (de_item (rv 0) (rv 2) (fun _ _ => rfl))) (DE.re de_int) (fun _ _ => rfl))))
  (dss_one (ds_ext 1 (FE.de (fe_comp (own := [("place", 4)]) (by rfl) nd (di_range1 (by rfl) m.nrange (DE.re (de_len (by rfl) m.nlen (ar_cons (rv 3) ar_nil)))) (by exact blkOk_by (by kernel_rfl)) (fun _ _ _ _ _ => (gn (L := [4]) 4 nd)) (fun _ _ _ _ _ => dts_nil) (fun _ _ _ _ _ => (de_tup (ae_cons (de_item (rv 3) (rv 4) (fun _ _ => rfl)) (ae_cons (dv 2) (ae_cons (dv 4) ae_nil))))))))))))
  (dss_one (ds_ret (FE.de (fe_sortR (by rfl) m.nsorted (ar_cons (rv 1) ar_nil))))))), fun ds Q q => ?_⟩
  obtain ⟨w, rfl, hw, q⟩ := q
  have hl := line_big
  have h3 : ∀ s ∈ w, s.2.length ≤ 3 := fun s hs => (hw.2.2.1 s hs).1
  have hn := hw.2.1
  simp only [startD, List.length_cons, List.length_nil, List.map_cons, List.map_nil, List.replicate, List.cons_append, List.nil_append, Nat.sub_self, Nat.zero_add, Nat.add_sub_cancel, Nat.reduceAdd, Nat.reduceSub, gt, sv, tV, t2, tK, tCl, tConsA, tNilA, tDk, tSq, dSet, dPar, tIfD, tTst, tFz, tTupD, tLstD, tApp, dAppPop, tPut, tPop, tIdx, tSeqI, tYesD, tBor, dExt, wipeD, gN, gTupD, gConsD, gNilD, tComp, kLen, kInt, kAbs, kMax2, kTupl, kListF, kI, NoC, kEq, true_and, tSlF, tSl2, tAndD, tOrD, tAndE, tOrE, t1, kNeg, kIsN, id_eq]
  rw [List.length_map]
  refine ⟨by decide, ⟨by omega, by omega⟩, ?_⟩
  refine forD_step (fun rest ρ => ∃ (i : Nat) (o1 o2 o3 : Option D), ρ = [some (webD w), some (.list ((tiesTo w i).map rowD)), o1, o2, o3] ∧ rest = rgD i (w.length : Int) ∧ i ≤ w.length) ⟨0, none, none, none, rfl, rfl, by omega⟩ ?_ ?_
  · rintro x rest ρ k ⟨i, o1, o2, o3, rfl, e, hi⟩ hk
    have lt : i < w.length := by
      have := congrArg List.length e
      rw [len_rgD, List.length_cons] at this
      omega
    rw [rgD_cons (by omega)] at e
    obtain ⟨rfl, rfl⟩ := List.cons.inj e
    have b1 := h3 w[i] (List.getElem_mem lt)
    have b2 := tiesTo_len h3 i (by omega)
    simp only [startD, List.length_cons, List.length_nil, List.map_cons, List.map_nil, List.replicate, List.cons_append, List.nil_append, Nat.sub_self, Nat.zero_add, Nat.add_sub_cancel, Nat.reduceAdd, Nat.reduceSub, gt, sv, tV, t2, tK, tCl, tConsA, tNilA, tDk, tSq, dSet, dPar, tIfD, tTst, tFz, tTupD, tLstD, tApp, dAppPop, tPut, tPop, tIdx, tSeqI, tYesD, tBor, dExt, wipeD, gN, gTupD, gConsD, gNilD, tComp, kLen, kInt, kAbs, kMax2, kTupl, kListF, kI, NoC, kEq, true_and, tSlF, tSl2, tAndD, tOrD, tAndE, tOrE, t1, kNeg, kIsN, id_eq]
    refine kIx_t (by simpa using lt) ?_
    rw [List.getElem_map]
    refine kIx_t (j := 1) (by simp) ?_
    show RgI _ ∧ _
    simp only [List.length_map]
    refine ⟨⟨by omega, by omega⟩, by rw [len_rgD]; omega, ?_⟩
    refine compD_map (tieF1 i w[i].2) (fun x hx kk hkk => ?_) ?_
    · obtain ⟨p, rfl, p0, p1⟩ := mem_rgD hx
      obtain ⟨p, rfl, hp⟩ := nat_ix p0 p1
      simp only [startD, List.length_cons, List.length_nil, List.map_cons, List.map_nil, List.replicate, List.cons_append, List.nil_append, Nat.sub_self, Nat.zero_add, Nat.add_sub_cancel, Nat.reduceAdd, Nat.reduceSub, gt, sv, tV, t2, tK, tCl, tConsA, tNilA, tDk, tSq, dSet, dPar, tIfD, tTst, tFz, tTupD, tLstD, tApp, dAppPop, tPut, tPop, tIdx, tSeqI, tYesD, tBor, dExt, wipeD, gN, gTupD, gConsD, gNilD, tComp, kLen, kInt, kAbs, kMax2, kTupl, kListF, kI, NoC, kEq, true_and, tSlF, tSl2, tAndD, tOrD, tAndE, tOrE, t1, kNeg, kIsN, id_eq]
      refine kIx_t (by simpa using hp) ⟨by decide, ?_⟩
      rw [List.getElem_map]
      simpa [rowD, hp, tieF1] using hkk
    · rw [tiesAt_rg]
      have e5 : (tiesTo w i).map rowD ++ (tiesAt i w[i]).map rowD = (tiesTo w (i + 1)).map rowD := by rw [tiesTo_succ lt, List.map_append]
      rw [e5]
      refine ⟨?_, hk _ ⟨i + 1, _, _, _, rfl, rfl, by omega⟩⟩
      simp only [List.length_map, tiesAt_len]
      omega
  · rintro ρ ⟨i, o1, o2, o3, rfl, e, hi⟩
    have : i = w.length := by
      have := congrArg List.length e
      rw [len_rgD, List.length_nil] at this
      omega
    subst this
    rw [tiesTo_all]
    exact ⟨tiesL w, rfl, tiesL_ne, q⟩
end
end PP

set_option Elab.async false
set_option linter.all false
set_option maxRecDepth 100000
set_option maxHeartbeats 2000000
namespace PP
open PySem PySem.Spec PyProof.Rows L2
section
variable {P : Program} {w : World} {K : PySem.W.Frag} {mg : Str → Option Value} {base : Heap}
abbrev s_law_joined : Stmt := topS 21
theorem sc_law_joined : FnScope ["web", "found", "turn", "step", "more", "other", "giver", "taker", "place"] ["web"] (defScope s_law_joined) := ⟨rfl, rfl, rfl, by decide +kernel, rfl, by decide +kernel, by decide +kernel⟩
theorem d_law_joined (m : Nm K mg) (h : Hd K mg "_law_joined" s_law_joined ["web"]) (c_law_ties : Cl P w K mg base 2 "_law_ties" ["web"] [.val] kTiesL) : Cl P w K mg base 3 "_law_joined" ["web"] [.val] kJoin := by
  have nd := sc_law_joined.nd
  refine clD (N := ["web", "found", "turn", "step", "more", "other", "giver", "taker", "place"]) (M := [.val, .own, .val, .val, .val, .val, .val, .val, .val]) h sc_law_joined kJoin_mono rfl rfl rfl (by decide) ⟨_, fun f cdv A outer s H E e hr hg => have hu := hr.units; have hu8 := hr.un80;
    (dss_cons (ds_setLc (i := 1) (own := [("step", 3)]) (by rfl) nd rfl rfl (sw_true rfl rfl rfl (by decide +kernel)) (di_range1 (by rfl) m.nrange (DE.re (de_len (by rfl) m.nlen (ar_cons (rv 0) ar_nil)))) (by exact blkOk_by (by kernel_rfl)) (fun _ _ _ _ _ => (gn (L := [3]) 3 nd)) (fun _ _ _ _ _ => dts_nil) (fun _ _ _ _ _ => (FE.de (fe_comp (own := [("giver", 6), ("taker", 7), ("place", 8)]) (by rfl) nd (di_seq (cl c_law_ties (hr.mono (by decide)) hg (ga_val (dv 0) ga_nil))) (by exact blkOk_by (by kernel_rfl)) (fun _ _ _ _ _ => (gt_tup (n := 3) (by rfl) (gts_cons (gn (L := [6, 7, 8]) 6 nd) (gts_cons (gn (L := [6, 7, 8]) 7 nd) (gts_cons (gn (L := [6, 7, 8]) 8 nd) gts_nil))))) (fun _ _ _ _ _ => (dts_one (dc_eq hu (rv 6) (rv 3)))) (fun _ _ _ _ _ => (dv 7))))))
  (dss_cons (ds_for (L := [2]) PassesOwn.never (by rfl) (di_range1 (by rfl) m.nrange (DE.re (de_len (by rfl) m.nlen (ar_cons (rv 0) ar_nil)))) (fun _ => (gn (L := [2]) 2 nd)) (fun _ => (dss_one (ds_for (L := [3]) PassesOwn.never (by rfl) (di_range1 (by rfl) m.nrange (DE.re (de_len (by rfl) m.nlen (ar_cons (rv 0) ar_nil)))) (fun _ => (gn (L := [3]) 3 nd)) (fun _ => (dss_cons (ds_st (i := 4) nd rfl (DE.se (FE.de (fe_list (by rfl) m.nlist (ar_cons (DE.re (de_item (rv 1) (rv 3) (fun _ _ => rfl))) ar_nil)))))
  (dss_cons (ds_for (L := [5]) PassesOwn.never (by rfl) (di_seq (de_item (rv 1) (rv 3) (fun _ _ => rfl))) (fun _ => (gn (L := [5]) 5 nd)) (fun _ => (dss_one (ds_st (i := 4) nd rfl (DE.se (de_add (rv 4) (DE.re (de_item (rv 1) (rv 5) (fun _ _ => rfl)))))))))
  (dss_one (dput 1 (FE.de (fe_sortSet (by rfl) (by rfl) m.nsorted (by rfl) m.nset (ar_cons (rv 4) ar_nil))) (rv 3))))))))))
  (dss_one (dr 1)))), fun ds Q q => ?_⟩
  obtain ⟨w, rfl, hw, q⟩ := q
  have hl := line_big
  have h3 : ∀ s ∈ w, s.2.length ≤ 3 := fun s hs => (hw.2.2.1 s hs).1
  have hn := hw.2.1
  have hw1 : Wb 100 w := ⟨hw.1, by omega, hw.2.2.1, hw.2.2.2⟩
  have b2 := tiesTo_len h3 w.length (by omega)
  rw [tiesTo_all] at b2
  have b3 : (srtR (tiesL w)).length = (tiesL w).length := (srtR_perm _).length_eq
  simp only [startD, List.length_cons, List.length_nil, List.map_cons, List.map_nil, List.replicate, List.cons_append, List.nil_append, Nat.sub_self, Nat.zero_add, Nat.add_sub_cancel, Nat.reduceAdd, Nat.reduceSub, gt, sv, tV, t2, tK, tCl, tConsA, tNilA, tDk, tSq, dSet, dPar, tIfD, tTst, tFz, tTupD, tLstD, tApp, dAppPop, tPut, tPop, tIdx, tSeqI, tYesD, tBor, dExt, wipeD, gN, gTupD, gConsD, gNilD, tComp, kLen, kInt, kAbs, kMax2, kTupl, kListF, kI, NoC, kEq, true_and, tSlF, tSl2, tAndD, tOrD, tAndE, tOrE, t1, kNeg, kIsN, id_eq]
  simp only [List.length_map]
  refine ⟨⟨by omega, by omega⟩, by rw [len_rgD]; omega, ?_⟩
  refine compD_map (takersF w) (fun x hx kk hkk => ?_) ?_
  · obtain ⟨a, rfl, a0, a1⟩ := mem_rgD hx
    obtain ⟨a, rfl, ha⟩ := nat_ix a0 a1
    simp only [startD, List.length_cons, List.length_nil, List.map_cons, List.map_nil, List.replicate, List.cons_append, List.nil_append, Nat.sub_self, Nat.zero_add, Nat.add_sub_cancel, Nat.reduceAdd, Nat.reduceSub, gt, sv, tV, t2, tK, tCl, tConsA, tNilA, tDk, tSq, dSet, dPar, tIfD, tTst, tFz, tTupD, tLstD, tApp, dAppPop, tPut, tPop, tIdx, tSeqI, tYesD, tBor, dExt, wipeD, gN, gTupD, gConsD, gNilD, tComp, kLen, kInt, kAbs, kMax2, kTupl, kListF, kI, NoC, kEq, true_and, tSlF, tSl2, tAndD, tOrD, tAndE, tOrE, t1, kNeg, kIsN, id_eq]
    refine ⟨w, rfl, hw1, ?_⟩
    show _ ≤ _ ∧ _
    refine ⟨by rw [List.length_map]; omega, ?_⟩
    refine compD_filt (takersPD a) takerF (fun x hx kk k' h1 h2 => ?_) ?_
    · obtain ⟨r, hr, rfl⟩ := List.mem_map.mp hx
      obtain ⟨t, p, s, g, e1, e2, rfl⟩ := mem_tiesL.mp ((srtR_perm _).mem_iff.mp hr)
      simp only [startD, List.length_cons, List.length_nil, List.map_cons, List.map_nil, List.replicate, List.cons_append, List.nil_append, Nat.sub_self, Nat.zero_add, Nat.add_sub_cancel, Nat.reduceAdd, Nat.reduceSub, gt, sv, tV, t2, tK, tCl, tConsA, tNilA, tDk, tSq, dSet, dPar, tIfD, tTst, tFz, tTupD, tLstD, tApp, dAppPop, tPut, tPop, tIdx, tSeqI, tYesD, tBor, dExt, wipeD, gN, gTupD, gConsD, gNilD, tComp, kLen, kInt, kAbs, kMax2, kTupl, kListF, kI, NoC, kEq, true_and, tSlF, tSl2, tAndD, tOrD, tAndE, tOrE, t1, kNeg, kIsN, id_eq]
      refine ⟨rfl, ⟨by rfl, by rfl⟩, ?_⟩
      have e3 : PyData.eqv (.int g) (.int (a : Int)) = (g == (a : Int)) := by simp [PyData.eqv]
      rw [e3]
      cases hb : g == (a : Int) with
      | true => exact h1 hb
      | false => exact h2 hb
    · rw [List.nil_append]
      have e4 : (((srtR (tiesL w)).map rowD).filter (takersPD a)).map takerF = (takers w a).map PyData.int := by
        unfold takers
        rw [List.filter_map, List.map_map, List.map_map]
        have e5 : (takersPD a ∘ rowD) = takersP a := by
          funext r
          cases r <;> rfl
        rw [e5]
        apply List.map_congr_left
        intro r hr
        obtain ⟨t, p, s, g, e1, e2, rfl⟩ := mem_tiesL.mp ((srtR_perm _).mem_iff.mp (List.mem_filter.mp hr).1)
        rfl
      rw [e4]
      exact hkk
  · have e0 : (rgD 0 (w.length : Int)).map (takersF w) = ((List.range w.length).map (takers w)).map lstI := by
      simp [rgD, List.map_map, takersF, lstI]
    rw [e0]
    refine ⟨⟨by omega, by omega⟩, ?_⟩
    refine forD_step (fun rest ρ => ∃ (t : Nat) (L : List (List Int)) (o2 o3 o4 o5 : Option D), ρ = [some (webD w), some (.list (L.map lstI)), o2, o3, o4, o5, none, none, none] ∧ rest.length + t = w.length ∧ JInv w (fun _ => t) L) ⟨0, _, none, none, none, none, rfl, by rw [len_rgD]; omega, jinv0 hw (by omega)⟩ ?_ ?_
    · rintro x rest ρ k ⟨t, L, o2, o3, o4, o5, rfl, hr, J⟩ hk
      simp only [startD, List.length_cons, List.length_nil, List.map_cons, List.map_nil, List.replicate, List.cons_append, List.nil_append, Nat.sub_self, Nat.zero_add, Nat.add_sub_cancel, Nat.reduceAdd, Nat.reduceSub, gt, sv, tV, t2, tK, tCl, tConsA, tNilA, tDk, tSq, dSet, dPar, tIfD, tTst, tFz, tTupD, tLstD, tApp, dAppPop, tPut, tPop, tIdx, tSeqI, tYesD, tBor, dExt, wipeD, gN, gTupD, gConsD, gNilD, tComp, kLen, kInt, kAbs, kMax2, kTupl, kListF, kI, NoC, kEq, true_and, tSlF, tSl2, tAndD, tOrD, tAndE, tOrE, t1, kNeg, kIsN, id_eq]
      rw [List.length_cons] at hr
      simp only [List.length_map]
      refine ⟨⟨by omega, by omega⟩, ?_⟩
      refine forD_step (fun rest ρ => ∃ (i : Nat) (L : List (List Int)) (o2 o3 o4 o5 : Option D), ρ = [some (webD w), some (.list (L.map lstI)), o2, o3, o4, o5, none, none, none] ∧ rest = rgD i (w.length : Int) ∧ i ≤ w.length ∧ JInv w (fun j => if j < i then t + 1 else t) L) ⟨0, L, _, _, _, _, rfl, rfl, by omega, by simpa using J⟩ ?_ ?_
      · rintro x rest ρ k ⟨i, L, o2, o3, o4, o5, rfl, e, hi, J⟩ hk
        have lt : i < w.length := by
          have := congrArg List.length e
          rw [len_rgD, List.length_cons] at this
          omega
        rw [rgD_cons (by omega)] at e
        obtain ⟨rfl, rfl⟩ := List.cons.inj e
        have lL : i < L.length := by rw [J.len]; exact lt
        simp only [startD, List.length_cons, List.length_nil, List.map_cons, List.map_nil, List.replicate, List.cons_append, List.nil_append, Nat.sub_self, Nat.zero_add, Nat.add_sub_cancel, Nat.reduceAdd, Nat.reduceSub, gt, sv, tV, t2, tK, tCl, tConsA, tNilA, tDk, tSq, dSet, dPar, tIfD, tTst, tFz, tTupD, tLstD, tApp, dAppPop, tPut, tPop, tIdx, tSeqI, tYesD, tBor, dExt, wipeD, gN, gTupD, gConsD, gNilD, tComp, kLen, kInt, kAbs, kMax2, kTupl, kListF, kI, NoC, kEq, true_and, tSlF, tSl2, tAndD, tOrD, tAndE, tOrE, t1, kNeg, kIsN, id_eq]
        refine kIx_l (by simpa using lL) ?_
        rw [List.getElem_map]
        show kIx _ _ _
        refine kIx_l (by simpa using lL) ?_
        rw [List.getElem_map]
        show forD _ _ _ (L[i].map PyData.int) _
        refine forD_step (fun rest ρ => ∃ (done todo more : List Int) (o5 : Option D), ρ = [some (webD w), some (.list (L.map lstI)), o2, some (.int (i : Int)), some (.list (more.map PyData.int)), o5, none, none, none] ∧ rest = todo.map PyData.int ∧ L[i] = done ++ todo ∧ more.length ≤ 30 + 30 * done.length ∧
          (∀ c, c ∈ more ↔ c ∈ L[i] ∨ ∃ (b : Nat) (l : List Int), (b : Int) ∈ done ∧ L[b]? = some l ∧ c ∈ l)) ⟨[], L[i], L[i], o5, rfl, rfl, rfl, by have := J.few _ _ (List.getElem?_eq_getElem lL); simp; omega, fun c => by simp⟩ ?_ ?_
        · rintro x rest ρ k2 ⟨done, todo, more, o5, rfl, e, eL, hm, hc⟩ hk2
          cases todo with
          | nil => cases e
          | cons y todo =>
            obtain ⟨rfl, rfl⟩ := List.cons.inj e
            have ym : y ∈ L[i] := by rw [eL]; simp
            obtain ⟨b, rfl, rb⟩ := J.sound _ _ (List.getElem?_eq_getElem lL) y ym
            have lb : b < L.length := by rw [J.len]; exact (rb.lt hw).2
            have ld := J.few _ _ (List.getElem?_eq_getElem lL)
            rw [eL, List.length_append, List.length_cons] at ld
            have lfb := J.few _ _ (List.getElem?_eq_getElem lb)
            simp only [startD, List.length_cons, List.length_nil, List.map_cons, List.map_nil, List.replicate, List.cons_append, List.nil_append, Nat.sub_self, Nat.zero_add, Nat.add_sub_cancel, Nat.reduceAdd, Nat.reduceSub, gt, sv, tV, t2, tK, tCl, tConsA, tNilA, tDk, tSq, dSet, dPar, tIfD, tTst, tFz, tTupD, tLstD, tApp, dAppPop, tPut, tPop, tIdx, tSeqI, tYesD, tBor, dExt, wipeD, gN, gTupD, gConsD, gNilD, tComp, kLen, kInt, kAbs, kMax2, kTupl, kListF, kI, NoC, kEq, true_and, tSlF, tSl2, tAndD, tOrD, tAndE, tOrE, t1, kNeg, kIsN, id_eq]
            refine kIx_l (by simpa using lb) ?_
            rw [List.getElem_map]
            show _ ≤ _ ∧ _
            have e6 : more.map PyData.int ++ L[b].map PyData.int = (more ++ L[b]).map PyData.int := by simp
            rw [e6]
            refine ⟨by simp only [List.length_map]; omega, hk2 _ ⟨done ++ [(b : Int)], todo, more ++ L[b], _, rfl, rfl, by rw [eL]; simp, by simp only [List.length_append, List.length_singleton]; omega, fun c => ?_⟩⟩
            rw [List.mem_append, hc c]
            constructor
            · rintro ((h | ⟨d, l, h1, h2, h3⟩) | h)
              · exact .inl h
              · exact .inr ⟨d, l, List.mem_append_left _ h1, h2, h3⟩
              · exact .inr ⟨b, _, List.mem_append_right _ (by simp), List.getElem?_eq_getElem lb, h⟩
            · rintro (h | ⟨d, l, h1, h2, h3⟩)
              · exact .inl (.inl h)
              · rcases List.mem_append.mp h1 with h1 | h1
                · exact .inl (.inr ⟨d, l, h1, h2, h3⟩)
                · have h1 : (d : Int) = (b : Int) := by simpa using h1
                  obtain rfl : d = b := by omega
                  rw [List.getElem?_eq_getElem lb] at h2
                  cases h2
                  exact .inr h3
        · rintro ρ ⟨done, todo, more, o5, rfl, e, eL, hm, hc⟩
          cases todo with
          | cons y todo => cases e
          | nil =>
            rw [List.append_nil] at eL
            have ld := J.few _ _ (List.getElem?_eq_getElem lL)
            rw [eL] at ld
            obtain ⟨J2, few⟩ := jinvS hw J lt lL more (fun c => by rw [hc c, eL])
            simp only [startD, List.length_cons, List.length_nil, List.map_cons, List.map_nil, List.replicate, List.cons_append, List.nil_append, Nat.sub_self, Nat.zero_add, Nat.add_sub_cancel, Nat.reduceAdd, Nat.reduceSub, gt, sv, tV, t2, tK, tCl, tConsA, tNilA, tDk, tSq, dSet, dPar, tIfD, tTst, tFz, tTupD, tLstD, tApp, dAppPop, tPut, tPop, tIdx, tSeqI, tYesD, tBor, dExt, wipeD, gN, gTupD, gConsD, gNilD, tComp, kLen, kInt, kAbs, kMax2, kTupl, kListF, kI, NoC, kEq, true_and, tSlF, tSl2, tAndD, tOrD, tAndE, tOrE, t1, kNeg, kIsN, id_eq]
            have e7 : ixN (L.map lstI).length (i : Int) = some i := by
              unfold ixN
              rw [if_pos (by omega), if_pos (by rw [List.length_map]; omega)]
              simp
            refine ⟨more, rfl, by omega, by omega, ?_⟩
            show (match ixN (L.map lstI).length (i : Int) with | some j => _ | none => False)
            rw [e7]
            have e8 : (L.map lstI).set i (.list ((setI more).map PyData.int)) = (L.set i (setI more)).map lstI := by
              rw [List.map_set]; rfl
            show k _
            first | rw [e8] | (simp only [sv]; rw [e8])
            exact hk _ ⟨i + 1, _, _, _, _, _, rfl, rfl, by omega, J2⟩
      · rintro ρ ⟨i, L, o2, o3, o4, o5, rfl, e, hi, J⟩
        have : i = w.length := by
          have := congrArg List.length e
          rw [len_rgD, List.length_nil] at this
          omega
        subst this
        exact hk _ ⟨t + 1, L, _, _, _, _, rfl, by omega, J.all⟩
    · rintro ρ ⟨t, L, o2, o3, o4, o5, rfl, hr, J⟩
      rw [List.length_nil] at hr
      refine q L J.len fun i l hl k => ⟨fun h => J.sound i l hl k h, ?_⟩
      rintro ⟨b, rfl, r⟩
      exact J.full i l hl b ((r.all hw).mono (by omega))
end
end PP

set_option Elab.async false
set_option linter.all false
set_option maxRecDepth 100000
set_option maxHeartbeats 2000000
namespace PP
open PySem PySem.Spec PyProof.Rows L2
section
variable {P : Program} {w : World} {K : PySem.W.Frag} {mg : Str → Option Value} {base : Heap}
abbrev stakers_of : Stmt := topS 2
theorem sctakers_of : FnScope ["web", "takers", "taker", "_", "inputs", "giver"] ["web"] (defScope stakers_of) := ⟨rfl, rfl, rfl, by decide +kernel, rfl, by decide +kernel, by decide +kernel⟩
theorem dtakers_of (m : Nm K mg) (h : Hd K mg "takers_of" stakers_of ["web"])  : Cl P w K mg base 2 "takers_of" ["web"] [.val] kTakers := by
  have nd := sctakers_of.nd
  refine clD (N := ["web", "takers", "taker", "_", "inputs", "giver"]) (M := [.val, .oo, .val, .val, .val, .val]) h sctakers_of kTakers_mono rfl rfl rfl (by decide) ⟨_, fun f cdv A outer s H E e hr hg => have hu := hr.units; have hu8 := hr.un80;
    (dss_cons (ds_lol (i := 1) (own := [("_", 3)]) (by rfl) nd rfl rfl (sw_true rfl rfl rfl (by decide +kernel)) (di_seq (dv 0)) (by exact blkOk_by (by kernel_rfl)) (fun _ _ _ _ _ => (gn (L := [3]) 3 nd)) (fun _ _ _ _ _ => dts_nil) (fun _ _ _ _ _ => (fe_lst ae_nil)))
  (dss_cons (ds_for (L := [2, 3, 4]) PassesOwn.never (by rfl) (di_enum (by rfl) m.nenumerate (dv 0)) (fun _ => (gt_tup (n := 2) (by rfl) (gts_cons (gn (L := [2, 3, 4]) 2 nd) (gts_cons (gt_tup (n := 2) (by rfl) (gts_cons (gn (L := [2, 3, 4]) 3 nd) (gts_cons (gn (L := [2, 3, 4]) 4 nd) gts_nil))) gts_nil)))) (fun _ => (dss_one (ds_for (L := [5]) PassesOwn.never (by rfl) (di_seq (dv 4)) (fun _ => (gn (L := [5]) 5 nd)) (fun _ => (dss_one (dappAt 1 (rv 5) (fun _ _ => rfl) (dv 2))))))))
  (dss_one (droo 1)))), fun ds Q q => ?_⟩
  obtain ⟨w, rfl, hw, q⟩ := q
  have hl := line_big
  have hn := hw.2.1
  simp only [startD, List.length_cons, List.length_nil, List.map_cons, List.map_nil, List.replicate, List.cons_append, List.nil_append, Nat.sub_self, Nat.zero_add, Nat.add_sub_cancel, Nat.reduceAdd, Nat.reduceSub, gt, sv, tV, t2, tK, tCl, tConsA, tNilA, tDk, tSq, dSet, dPar, tIfD, tTst, tFz, tTupD, tLstD, tApp, dAppPop, tPut, tPop, tIdx, tSeqI, tYesD, tBor, dExt, wipeD, gN, gTupD, gConsD, gNilD, tComp, kLen, kInt, kAbs, kMax2, kTupl, kListF, kI, NoC, kEq, true_and, tSlF, tSl2, tAndD, tOrD, tAndE, tOrE, t1, kNeg, kIsN, id_eq]
  show (w.map stD).length ≤ sizeLine ∧ compL _ _ _ _ _ _ _
  refine ⟨by rw [List.length_map]; omega, compL_nils (fun x k hk => ⟨by decide, hk⟩) _ _ ?_⟩
  show forD _ _ _ (enD (w.map stD)) _
  refine forD_step (fun rest ρ => ∃ (t : Nat) (o2 o3 o4 o5 : Option D), ρ = [some (webD w), some (tkL w (tkTo w t)), o2, o3, o4, o5] ∧ rest = (enD (w.map stD)).drop t ∧ t ≤ w.length) ⟨0, none, none, none, none, ?_, rfl, by omega⟩ ?_ ?_
  · have e : (([] ++ (w.map stD).map fun _ => ([] : List D)).map PyData.list) = (List.range w.length).map fun g => PyData.list ((tkTo w 0 g).map PyData.int) := by
      apply List.ext_getElem
      · simp
      · intro i h1 h2
        simp [tkTo]
    unfold tkL
    rw [← e]
  · rintro x rest ρ k ⟨t, o2, o3, o4, o5, rfl, e, hi⟩ hk
    have lt : t < w.length := by
      have := congrArg List.length e
      rw [List.length_drop, List.length_cons, enD_len, List.length_map] at this
      omega
    rw [List.drop_eq_getElem_cons (by rw [enD_len, List.length_map]; exact lt)] at e
    obtain ⟨rfl, rfl⟩ := List.cons.inj e
    have ex : (enD (w.map stD))[t]'(by rw [enD_len, List.length_map]; exact lt) = .tuple [.int (t : Int), stD w[t]] := by
      simp [enD, lt]
    rw [ex]
    simp only [startD, List.length_cons, List.length_nil, List.map_cons, List.map_nil, List.replicate, List.cons_append, List.nil_append, Nat.sub_self, Nat.zero_add, Nat.add_sub_cancel, Nat.reduceAdd, Nat.reduceSub, gt, sv, tV, t2, tK, tCl, tConsA, tNilA, tDk, tSq, dSet, dPar, tIfD, tTst, tFz, tTupD, tLstD, tApp, dAppPop, tPut, tPop, tIdx, tSeqI, tYesD, tBor, dExt, wipeD, gN, gTupD, gConsD, gNilD, tComp, kLen, kInt, kAbs, kMax2, kTupl, kListF, kI, NoC, kEq, true_and, tSlF, tSl2, tAndD, tOrD, tAndE, tOrE, t1, kNeg, kIsN, id_eq]
    have hs : w[t]? = some w[t] := List.getElem?_eq_getElem lt
    have ok := hw.2.2 w[t] (List.getElem_mem lt)
    refine forD_step (fun rest ρ => ∃ (p : Nat) (o5 : Option D), ρ = [some (webD w), some (tkL w (tkP w t p)), some (.int (t : Int)), some w[t].1, some (tupI w[t].2), o5] ∧ rest = (w[t].2.map PyData.int).drop p ∧ p ≤ w[t].2.length) ⟨0, _, by rw [tkP_zero], rfl, by omega⟩ ?_ ?_
    · rintro x rest ρ k2 ⟨p, o5, rfl, e, hp⟩ hk2
      have lp : p < w[t].2.length := by
        have := congrArg List.length e
        rw [List.length_drop, List.length_cons, List.length_map] at this
        omega
      rw [List.drop_eq_getElem_cons (by rw [List.length_map]; exact lp), List.getElem_map] at e
      obtain ⟨rfl, rfl⟩ := List.cons.inj e
      have hj := ok.2.2 w[t].2[p] (List.getElem_mem lp)
      obtain ⟨j, ej⟩ : ∃ j : Nat, w[t].2[p] = (j : Int) := ⟨w[t].2[p].toNat, by omega⟩
      have lj : j < w.length := by omega
      have hg : w[t].2[p]? = some (j : Int) := by rw [List.getElem?_eq_getElem lp, ej]
      simp only [startD, List.length_cons, List.length_nil, List.map_cons, List.map_nil, List.replicate, List.cons_append, List.nil_append, Nat.sub_self, Nat.zero_add, Nat.add_sub_cancel, Nat.reduceAdd, Nat.reduceSub, gt, sv, tV, t2, tK, tCl, tConsA, tNilA, tDk, tSq, dSet, dPar, tIfD, tTst, tFz, tTupD, tLstD, tApp, dAppPop, tPut, tPop, tIdx, tSeqI, tYesD, tBor, dExt, wipeD, gN, gTupD, gConsD, gNilD, tComp, kLen, kInt, kAbs, kMax2, kTupl, kListF, kI, NoC, kEq, true_and, tSlF, tSl2, tAndD, tOrD, tAndE, tOrE, t1, kNeg, kIsN, id_eq]
      rw [ej]
      simp only [tAppAt, gt, tV, sv, tkL]
      refine ⟨j, (tkP w t p j).map PyData.int, rfl, by rw [List.getElem?_map, List.getElem?_range lj]; rfl, ?_, ?_⟩
      · rw [List.length_map]
        unfold tkP
        rw [hs, List.length_append]
        show _ + (tkAt t (w[t].2.take p) j).length < _
        have := tkTo_len hw j t
        have := tkAt_len t j (w[t].2.take p)
        have := List.length_take_le p w[t].2
        have := ok.1
        omega
      · rw [tkL_set lj (t : Int) (fun g => tkP_succ hs hg g)]
        exact hk2 _ ⟨p + 1, _, rfl, rfl, by omega⟩
    · rintro ρ ⟨p, o5, rfl, e, hp⟩
      have : p = w[t].2.length := by
        have := congrArg List.length e
        rw [List.length_drop, List.length_nil, List.length_map] at this
        omega
      subst this
      rw [tkP_full hs (Nat.le_refl _)]
      exact hk _ ⟨t + 1, _, _, _, _, rfl, rfl, by omega⟩
  · rintro ρ ⟨t, o2, o3, o4, o5, rfl, e, hi⟩
    have : t = w.length := by
      have := congrArg List.length e
      rw [List.length_drop, List.length_nil, enD_len, List.length_map] at this
      omega
    subst this
    exact q
end
end PP

set_option Elab.async false
set_option linter.all false
set_option maxRecDepth 100000
set_option maxHeartbeats 2000000
namespace PP
open PySem PySem.Spec PyProof.Rows L2
def lenF : D → D
  | .tuple [_, .tuple xs] => .int xs.length
  | d => d
section
variable {P : Program} {w : World} {K : PySem.W.Frag} {mg : Str → Option Value} {base : Heap}
abbrev sgivers_first : Stmt := topS 1
theorem scgivers_first : FnScope ["web", "missing", "takers", "row", "at", "giver", "taker", "_", "inputs", "step"] ["web"] (defScope sgivers_first) := ⟨rfl, rfl, rfl, by decide +kernel, rfl, by decide +kernel, by decide +kernel⟩
theorem dgivers_first (m : Nm K mg) (h : Hd K mg "givers_first" sgivers_first ["web"]) (ctakers_of : Cl P w K mg base 2 "takers_of" ["web"] [.val] kTakers) : Cl P w K mg base 3 "givers_first" ["web"] [.val] kFirst := by
  have nd := scgivers_first.nd
  refine clD (N := ["web", "missing", "takers", "row", "at", "giver", "taker", "_", "inputs", "step"]) (M := [.val, .own, .val, .own, .val, .val, .val, .val, .val, .val]) h scgivers_first kFirst_mono rfl rfl rfl (by decide) ⟨_, fun f cdv A outer s H E e hr hg => have hu := hr.units; have hu8 := hr.un80;
    (dss_cons (ds_st (i := 1) nd rfl (FE.se (fe_comp (own := [("_", 7), ("inputs", 8)]) (by rfl) nd (di_seq (dv 0)) (by exact blkOk_by (by kernel_rfl)) (fun _ _ _ _ _ => (gt_tup (n := 2) (by rfl) (gts_cons (gn (L := [7, 8]) 7 nd) (gts_cons (gn (L := [7, 8]) 8 nd) gts_nil)))) (fun _ _ _ _ _ => dts_nil) (fun _ _ _ _ _ => (de_len (by rfl) m.nlen (ar_cons (rv 8) ar_nil))))))
  (dss_cons (ds_st (i := 2) nd rfl (DE.se (cl ctakers_of (hr.mono (by decide)) hg (ga_val (dv 0) ga_nil))))
  (dss_cons (ds_setLc (i := 3) (own := [("step", 9)]) (by rfl) nd rfl rfl (sw_true rfl rfl rfl (by decide +kernel)) (di_range1 (by rfl) m.nrange (DE.re (de_len (by rfl) m.nlen (ar_cons (rv 0) ar_nil)))) (by exact blkOk_by (by kernel_rfl)) (fun _ _ _ _ _ => (gn (L := [9]) 9 nd)) (fun _ _ _ _ _ => (dts_one (dc_not (dc_truth (DE.re (de_item (rv 1) (rv 9) (fun _ _ => rfl))))))) (fun _ _ _ _ _ => (dv 9)))
  (dss_cons (ds_st (i := 4) nd rfl (DE.se de_int))
  (dss_cons (ds_while PassesOwn.never (dc_lt (rv 4) (DE.re (de_len (by rfl) m.nlen (ar_cons (rv 3) ar_nil)))) (dss_cons (ds_st (i := 5) nd rfl (DE.se (de_item (rv 3) (rv 4) (fun _ _ => rfl))))
  (dss_cons (ds_for (L := [6]) PassesOwn.never (by rfl) (di_seq (de_item (rv 2) (rv 5) (fun _ _ => rfl))) (fun _ => (gn (L := [6]) 6 nd)) (fun _ => (dss_cons (daugP ip_sub 1 (rv 6) (DE.re de_int))
  (dss_one (ds_if (dc_not (dc_truth (DE.re (de_item (rv 1) (rv 6) (fun _ _ => rfl))))) (dss_one (dapp 3 (dv 6))) dss_nil)))))
  (dss_one (daug ip_add 4 nd (DE.re de_int))))))
  (dss_one (dr 3))))))), fun ds Q q => ?_⟩
  obtain ⟨w, rfl, hw, q⟩ := q
  have hr := hw.wr
  have big := line_big
  have hn := hr.2.1
  simp only [startD, List.length_cons, List.length_nil, List.map_cons, List.map_nil, List.replicate, List.cons_append, List.nil_append, Nat.sub_self, Nat.zero_add, Nat.add_sub_cancel, Nat.reduceAdd, Nat.reduceSub, gt, sv, tV, t2, tK, tCl, tConsA, tNilA, tDk, tSq, dSet, dPar, tIfD, tTst, tFz, tTupD, tLstD, tApp, dAppPop, tPut, tPop, tIdx, tSeqI, tYesD, tBor, dExt, wipeD, gN, gTupD, gConsD, gNilD, tComp, kLen, kInt, kAbs, kMax2, kTupl, kListF, kI, NoC, kEq, true_and, tSlF, tSl2, tAndD, tOrD, tAndE, tOrE, t1, kNeg, kIsN, id_eq]
  show (w.map stD).length ≤ sizeLine ∧ _
  refine ⟨by rw [List.length_map]; omega, ?_⟩
  refine compD_map lenF (fun x hx kk hkk => ?_) ?_
  · obtain ⟨s, hs, rfl⟩ := List.mem_map.mp hx
    simp only [startD, List.length_cons, List.length_nil, List.map_cons, List.map_nil, List.replicate, List.cons_append, List.nil_append, Nat.sub_self, Nat.zero_add, Nat.add_sub_cancel, Nat.reduceAdd, Nat.reduceSub, gt, sv, tV, t2, tK, tCl, tConsA, tNilA, tDk, tSq, dSet, dPar, tIfD, tTst, tFz, tTupD, tLstD, tApp, dAppPop, tPut, tPop, tIdx, tSeqI, tYesD, tBor, dExt, wipeD, gN, gTupD, gConsD, gNilD, tComp, kLen, kInt, kAbs, kMax2, kTupl, kListF, kI, NoC, kEq, true_and, tSlF, tSl2, tAndD, tOrD, tAndE, tOrE, t1, kNeg, kIsN, id_eq]
    exact hkk
  · have e0 : (w.map stD).map lenF = (w.map fun s => (s.2.length : Int)).map PyData.int := by
      rw [List.map_map, List.map_map]
      apply List.map_congr_left
      intro s hs
      simp [lenF]
    rw [e0]
    refine ⟨w, rfl, hr, ?_⟩
    simp only [List.length_map]
    refine ⟨⟨by omega, by omega⟩, by rw [len_rgD]; omega, ?_⟩
    refine compD_filt (fun d => match d with | .int k => (inpD w k).isEmpty | _ => false) id (fun x hx k k' h1 h2 => ?_) ?_
    · obtain ⟨i, rfl, i0, i1⟩ := mem_rgD hx
      obtain ⟨i, rfl, hi⟩ := nat_ix i0 i1
      simp only [startD, List.length_cons, List.length_nil, List.map_cons, List.map_nil, List.replicate, List.cons_append, List.nil_append, Nat.sub_self, Nat.zero_add, Nat.add_sub_cancel, Nat.reduceAdd, Nat.reduceSub, gt, sv, tV, t2, tK, tCl, tConsA, tNilA, tDk, tSq, dSet, dPar, tIfD, tTst, tFz, tTupD, tLstD, tApp, dAppPop, tPut, tPop, tIdx, tSeqI, tYesD, tBor, dExt, wipeD, gN, gTupD, gConsD, gNilD, tComp, kLen, kInt, kAbs, kMax2, kTupl, kListF, kI, NoC, kEq, true_and, tSlF, tSl2, tAndD, tOrD, tAndE, tOrE, t1, kNeg, kIsN, id_eq]
      simp only [tTru, t2, tV, gt]
      refine kIx_l (by simpa using hi) ?_
      simp only [List.getElem_map]
      have e2 : (inpD w (i : Int)).isEmpty = decide (((w[i].2.length : Nat) : Int) = 0) := by
        rw [inp_at hi]
        cases w[i].2 with
        | nil => rfl
        | cons a l => simp; omega
      cases hb : (inpD w (i : Int)).isEmpty with
      | true =>
        rw [hb] at e2
        have e3 := of_decide_eq_true e2.symm
        rw [e3]
        exact h1 hb
      | false =>
        rw [hb] at e2
        have e3 := of_decide_eq_false e2.symm
        have e5 : ¬ w[i].2 = [] := fun z => e3 (by rw [z]; rfl)
        simp [e3, e5]
        exact h2 hb
    · have e4 : ((rgD 0 (w.length : Int)).filter fun d => match d with | .int k => (inpD w k).isEmpty | _ => false).map id = ((rowI (List.range w.length)).filter fun k => (inpD w k).isEmpty).map PyData.int := by
        have e3 : rgD 0 (w.length : Int) = (rowI (List.range w.length)).map PyData.int := by simp [rgD, rowI]
        rw [List.map_id, e3, List.filter_map]
        rfl
      rw [List.nil_append, e4]
      refine ⟨fun m ρ => ∃ (at_ : Nat) (row M : List Int) (o5 o6 : Option D), ρ = [some (webD w), some (.list (M.map PyData.int)), some (tkL w (tk w)), some (.list (row.map PyData.int)), some (.int (at_ : Int)), o5, o6, none, none, none] ∧ m = w.length - at_ ∧ at_ ≤ row.length ∧ KI w (row.take at_) [] row M,
        ⟨_, 0, _, _, none, none, rfl, rfl, Nat.zero_le _, KI.begin w⟩, ?_⟩
      rintro m ρ ⟨at_, row, M, o5, o6, rfl, hm, ha, J⟩
      have lr := J.bd
      simp only [startD, List.length_cons, List.length_nil, List.map_cons, List.map_nil, List.replicate, List.cons_append, List.nil_append, Nat.sub_self, Nat.zero_add, Nat.add_sub_cancel, Nat.reduceAdd, Nat.reduceSub, gt, sv, tV, t2, tK, tCl, tConsA, tNilA, tDk, tSq, dSet, dPar, tIfD, tTst, tFz, tTupD, tLstD, tApp, dAppPop, tPut, tPop, tIdx, tSeqI, tYesD, tBor, dExt, wipeD, gN, gTupD, gConsD, gNilD, tComp, kLen, kInt, kAbs, kMax2, kTupl, kListF, kI, NoC, kEq, true_and, tSlF, tSl2, tAndD, tOrD, tAndE, tOrE, t1, kNeg, kIsN, id_eq]
      rw [List.length_map]
      by_cases c : at_ < row.length
      · have ce : decide ((at_ : Int) < (row.length : Int)) = true := decide_eq_true (by omega)
        rw [ce]
        have hrow : row[at_] ∈ row := List.getElem_mem c
        obtain ⟨g, eg, lg⟩ := J.fin.mem _ hrow
        have hgP : (g : Int) ∉ row.take at_ := fun z => by
          have nd := J.fin.nd
          have e5 : row = row.take at_ ++ row[at_] :: row.drop (at_ + 1) := by
            rw [← List.drop_eq_getElem_cons c, List.take_append_drop]
          rw [e5, List.nodup_append] at nd
          exact nd.2.2 _ z row[at_] List.mem_cons_self eg.symm
        have hgr : (g : Int) ∈ row := eg ▸ hrow
        simp only [startD, List.length_cons, List.length_nil, List.map_cons, List.map_nil, List.replicate, List.cons_append, List.nil_append, Nat.sub_self, Nat.zero_add, Nat.add_sub_cancel, Nat.reduceAdd, Nat.reduceSub, gt, sv, tV, t2, tK, tCl, tConsA, tNilA, tDk, tSq, dSet, dPar, tIfD, tTst, tFz, tTupD, tLstD, tApp, dAppPop, tPut, tPop, tIdx, tSeqI, tYesD, tBor, dExt, wipeD, gN, gTupD, gConsD, gNilD, tComp, kLen, kInt, kAbs, kMax2, kTupl, kListF, kI, NoC, kEq, true_and, tSlF, tSl2, tAndD, tOrD, tAndE, tOrE, t1, kNeg, kIsN, id_eq]
        refine kIx_l (by simpa using c) ?_
        rw [List.getElem_map, eg]
        simp only [tkL]
        refine kIx_l (by simpa using lg) ?_
        rw [List.getElem_map, List.getElem_range]
        show forD _ _ _ ((tk w g).map PyData.int) _
        refine forD_step (fun rest ρ => ∃ (pre post row2 M2 : List Int) (o6 : Option D), ρ = [some (webD w), some (.list (M2.map PyData.int)), some (tkL w (tk w)), some (.list (row2.map PyData.int)), some (.int (at_ : Int)), some (.int (g : Int)), o6, none, none, none] ∧ rest = post.map PyData.int ∧ tk w g = pre ++ post ∧ (∃ more, row2 = row ++ more) ∧ KI w (row.take at_) pre row2 M2) ⟨[], tk w g, row, M, _, rfl, rfl, rfl, ⟨[], by simp⟩, J⟩ ?_ ?_
        · rintro x rest ρ k2 ⟨pre, post, row2, M2, o6, rfl, er, ek, ⟨more, em⟩, J2⟩ hk2
          cases post with
          | nil => cases er
          | cons t post =>
          obtain ⟨rfl, rfl⟩ := List.cons.inj er
          have ht : t ∈ tk w g := by rw [ek]; simp
          obtain ⟨t, rfl, tie⟩ := mem_tk.mp ht
          have lt : t < w.length := by
            obtain ⟨s, hs, _⟩ := tie
            exact (List.getElem?_eq_some_iff.mp hs).1
          have tl : t < M2.length := by rw [J2.len]; exact lt
          have sub : ∀ a ∈ row, a ∈ row2 := fun a h => by rw [em]; exact List.mem_append_left _ h
          have nx := J2.next lt hgP (fun a h => sub a (List.mem_of_mem_take h)) (sub _ hgr) ek
          have lr2 := J2.bd
          have hM : (M2.map PyData.int)[t]? = some (.int (M2.getD t 0)) := by
            rw [List.getElem?_map, List.getElem?_eq_getElem tl, getD_at tl]; rfl
          simp only [startD, List.length_cons, List.length_nil, List.map_cons, List.map_nil, List.replicate, List.cons_append, List.nil_append, Nat.sub_self, Nat.zero_add, Nat.add_sub_cancel, Nat.reduceAdd, Nat.reduceSub, gt, sv, tV, t2, tK, tCl, tConsA, tNilA, tDk, tSq, dSet, dPar, tIfD, tTst, tFz, tTupD, tLstD, tApp, dAppPop, tPut, tPop, tIdx, tSeqI, tYesD, tBor, dExt, wipeD, gN, gTupD, gConsD, gNilD, tComp, kLen, kInt, kAbs, kMax2, kTupl, kListF, kI, NoC, kEq, true_and, tSlF, tSl2, tAndD, tOrD, tAndE, tOrE, t1, kNeg, kIsN, id_eq]
          simp only [tAugP, gt, tV, sv, tK]
          refine ⟨t, M2.getD t 0, rfl, hM, ?_⟩
          have e6 : (M2.map PyData.int).set t (.int (M2.getD t 0 - 1)) = (M2.set t (M2.getD t 0 - 1)).map PyData.int := by rw [List.map_set]
          rw [e6]
          simp only [tTru, t2, tV, gt]
          refine kIx_l (by simpa using tl) ?_
          have e7 : ((M2.set t (M2.getD t 0 - 1)).map PyData.int)[t]'(by simpa using tl) = .int (M2.getD t 0 - 1) := by
            rw [List.getElem_map, List.getElem_set_self]
          rw [e7]
          by_cases z : M2.getD t 0 - 1 = 0
          · have J3 := nx.2 z
            rw [z] at J3 ⊢
            rw [if_pos (by decide)]
            try simp only [startD, List.length_cons, List.length_nil, List.map_cons, List.map_nil, List.replicate, List.cons_append, List.nil_append, Nat.sub_self, Nat.zero_add, Nat.add_sub_cancel, Nat.reduceAdd, Nat.reduceSub, gt, sv, tV, t2, tK, tCl, tConsA, tNilA, tDk, tSq, dSet, dPar, tIfD, tTst, tFz, tTupD, tLstD, tApp, dAppPop, tPut, tPop, tIdx, tSeqI, tYesD, tBor, dExt, wipeD, gN, gTupD, gConsD, gNilD, tComp, kLen, kInt, kAbs, kMax2, kTupl, kListF, kI, NoC, kEq, true_and, tSlF, tSl2, tAndD, tOrD, tAndE, tOrE, t1, kNeg, kIsN, id_eq]
            have lr3 := J3.bd
            rw [List.length_append, List.length_singleton] at lr3
            refine ⟨by rw [List.length_map]; omega, ?_⟩
            have e8 : row2.map PyData.int ++ [PyData.int (t : Int)] = (row2 ++ [(t : Int)]).map PyData.int := by simp
            rw [e8]
            exact hk2 _ ⟨pre ++ [(t : Int)], post, _, _, _, rfl, rfl, by rw [ek]; simp, ⟨more ++ [(t : Int)], by rw [em]; simp⟩, J3⟩
          · have J3 := nx.1 z
            have ez : (M2.getD t 0 - 1 != 0) = true := by simpa using z
            dsimp only
            rw [ez, if_neg (by decide)]
            exact hk2 _ ⟨pre ++ [(t : Int)], post, _, _, _, rfl, rfl, by rw [ek]; simp, ⟨more, em⟩, J3⟩
        · rintro ρ ⟨pre, post, row2, M2, o6, rfl, er, ek, ⟨more, em⟩, J2⟩
          have : post = [] := by
            cases post with
            | nil => rfl
            | cons a l => cases er
          subst this
          rw [List.append_nil] at ek
          rw [← ek] at J2
          have J3 := J2.done hgP
          have e9 : row2.take (at_ + 1) = row.take at_ ++ [(g : Int)] := by
            rw [em, List.take_append_of_le_length (by omega), takeNext c, eg]
          rw [← e9] at J3
          simp only [startD, List.length_cons, List.length_nil, List.map_cons, List.map_nil, List.replicate, List.cons_append, List.nil_append, Nat.sub_self, Nat.zero_add, Nat.add_sub_cancel, Nat.reduceAdd, Nat.reduceSub, gt, sv, tV, t2, tK, tCl, tConsA, tNilA, tDk, tSq, dSet, dPar, tIfD, tTst, tFz, tTupD, tLstD, tApp, dAppPop, tPut, tPop, tIdx, tSeqI, tYesD, tBor, dExt, wipeD, gN, gTupD, gConsD, gNilD, tComp, kLen, kInt, kAbs, kMax2, kTupl, kListF, kI, NoC, kEq, true_and, tSlF, tSl2, tAndD, tOrD, tAndE, tOrE, t1, kNeg, kIsN, id_eq]
          simp only [tAugD, gt, tV, sv, tK]
          have lr2 : row.length ≤ row2.length := by rw [em, List.length_append]; omega
          exact ⟨w.length - (at_ + 1), by omega, at_ + 1, row2, M2, _, _, rfl, rfl, by omega, J3⟩
      · have ce : decide ((at_ : Int) < (row.length : Int)) = false := decide_eq_false (by omega)
        rw [ce]
        have ea : at_ = row.length := by omega
        subst ea
        rw [List.take_length] at J
        exact q row (J.fin.all hw J.end_)
end
end PP

set_option Elab.async false
set_option linter.all false
set_option maxRecDepth 100000
set_option maxHeartbeats 2000000
namespace PP
open PySem PySem.Spec PyProof.Rows L2
def freshP (fo B : List Int) : D → Bool
  | .int c => (!(fo.any (· == c))) && !(B.any (· == c))
  | _ => false
section
variable {P : Program} {w : World} {K : PySem.W.Frag} {mg : Str → Option Value} {base : Heap}
abbrev snear_steps : Stmt := topS 4
theorem scnear_steps : FnScope ["web", "near", "taker", "_", "inputs", "giver"] ["web"] (defScope snear_steps) := ⟨rfl, rfl, rfl, by decide +kernel, rfl, by decide +kernel, by decide +kernel⟩
theorem dnear_steps (m : Nm K mg) (h : Hd K mg "near_steps" snear_steps ["web"])  : Cl P w K mg base 2 "near_steps" ["web"] [.val] kNear := by
  have nd := scnear_steps.nd
  refine clD (N := ["web", "near", "taker", "_", "inputs", "giver"]) (M := [.val, .oo, .val, .val, .val, .val]) h scnear_steps kNear_mono rfl rfl rfl (by decide) ⟨_, fun f cdv A outer s H E e hr hg => have hu := hr.units; have hu8 := hr.un80;
    (dss_cons (ds_lol (i := 1) (own := [("_", 3)]) (by rfl) nd rfl rfl (sw_true rfl rfl rfl (by decide +kernel)) (di_seq (dv 0)) (by exact blkOk_by (by kernel_rfl)) (fun _ _ _ _ _ => (gn (L := [3]) 3 nd)) (fun _ _ _ _ _ => dts_nil) (fun _ _ _ _ _ => (fe_lst ae_nil)))
  (dss_cons (ds_for (L := [2, 3, 4]) PassesOwn.never (by rfl) (di_enum (by rfl) m.nenumerate (dv 0)) (fun _ => (gt_tup (n := 2) (by rfl) (gts_cons (gn (L := [2, 3, 4]) 2 nd) (gts_cons (gt_tup (n := 2) (by rfl) (gts_cons (gn (L := [2, 3, 4]) 3 nd) (gts_cons (gn (L := [2, 3, 4]) 4 nd) gts_nil))) gts_nil)))) (fun _ => (dss_one (ds_for (L := [5]) PassesOwn.never (by rfl) (di_seq (dv 4)) (fun _ => (gn (L := [5]) 5 nd)) (fun _ => (dss_one (ds_if (dc_notIn (rv 5) (ooi 1 (rv 2) (fun _ _ => rfl))) (dss_cons (dappAt 1 (rv 2) (fun _ _ => rfl) (dv 5))
  (dss_one (dappAt 1 (rv 5) (fun _ _ => rfl) (dv 2)))) dss_nil)))))))
  (dss_one (droo 1)))), fun ds Q q => ?_⟩
  obtain ⟨w, rfl, hw, q⟩ := q
  have hl := line_big
  have hn := hw.2.1
  simp only [startD, List.length_cons, List.length_nil, List.map_cons, List.map_nil, List.replicate, List.cons_append, List.nil_append, Nat.sub_self, Nat.zero_add, Nat.add_sub_cancel, Nat.reduceAdd, Nat.reduceSub, gt, sv, tV, t2, tK, tCl, tConsA, tNilA, tDk, tSq, dSet, dPar, tIfD, tTst, tFz, tTupD, tLstD, tApp, dAppPop, tPut, tPop, tIdx, tSeqI, tYesD, tBor, dExt, wipeD, gN, gTupD, gConsD, gNilD, tComp, kLen, kInt, kAbs, kMax2, kTupl, kListF, kI, NoC, kEq, true_and, tSlF, tSl2, tAndD, tOrD, tAndE, tOrE, t1, kNeg, kIsN, id_eq]
  show (w.map stD).length ≤ sizeLine ∧ compL _ _ _ _ _ _ _
  refine ⟨by rw [List.length_map]; omega, compL_nils (fun x k hk => ⟨by decide, hk⟩) _ _ ?_⟩
  show forD _ _ _ (enD (w.map stD)) _
  refine forD_step (fun rest ρ => ∃ (t : Nat) (L : List (List Int)) (o2 o3 o4 o5 : Option D), ρ = [some (webD w), some (.list (L.map lstI)), o2, o3, o4, o5] ∧ NP w t 0 L ∧ rest = (enD (w.map stD)).drop t ∧ t ≤ w.length) ⟨0, _, none, none, none, none, ?_, NP.begin w, rfl, by omega⟩ ?_ ?_
  · have e : (([] ++ (w.map stD).map fun _ => ([] : List D)).map PyData.list) = ((List.range w.length).map fun _ => ([] : List Int)).map lstI := by
      apply List.ext_getElem
      · simp
      · intro i h1 h2
        simp [lstI]
    rw [e]
  · rintro x rest ρ k ⟨t, L, o2, o3, o4, o5, rfl, J, e, hi⟩ hk
    have lt : t < w.length := by
      have := congrArg List.length e
      rw [List.length_drop, List.length_cons, enD_len, List.length_map] at this
      omega
    rw [List.drop_eq_getElem_cons (by rw [enD_len, List.length_map]; exact lt)] at e
    obtain ⟨rfl, rfl⟩ := List.cons.inj e
    have ex : (enD (w.map stD))[t]'(by rw [enD_len, List.length_map]; exact lt) = .tuple [.int (t : Int), stD w[t]] := by
      simp [enD, lt]
    rw [ex]
    simp only [startD, List.length_cons, List.length_nil, List.map_cons, List.map_nil, List.replicate, List.cons_append, List.nil_append, Nat.sub_self, Nat.zero_add, Nat.add_sub_cancel, Nat.reduceAdd, Nat.reduceSub, gt, sv, tV, t2, tK, tCl, tConsA, tNilA, tDk, tSq, dSet, dPar, tIfD, tTst, tFz, tTupD, tLstD, tApp, dAppPop, tPut, tPop, tIdx, tSeqI, tYesD, tBor, dExt, wipeD, gN, gTupD, gConsD, gNilD, tComp, kLen, kInt, kAbs, kMax2, kTupl, kListF, kI, NoC, kEq, true_and, tSlF, tSl2, tAndD, tOrD, tAndE, tOrE, t1, kNeg, kIsN, id_eq]
    have hs : w[t]? = some w[t] := List.getElem?_eq_getElem lt
    have ok := hw.2.2.1 w[t] (List.getElem_mem lt)
    refine forD_step (fun rest ρ => ∃ (p : Nat) (L : List (List Int)) (o5 : Option D), ρ = [some (webD w), some (.list (L.map lstI)), some (.int (t : Int)), some w[t].1, some (tupI w[t].2), o5] ∧ NP w t p L ∧ rest = (w[t].2.map PyData.int).drop p ∧ p ≤ w[t].2.length) ⟨0, L, _, rfl, J, rfl, by omega⟩ ?_ ?_
    · rintro x rest ρ k2 ⟨p, L, o5, rfl, J, e, hp⟩ hk2
      have lp : p < w[t].2.length := by
        have := congrArg List.length e
        rw [List.length_drop, List.length_cons, List.length_map] at this
        omega
      rw [List.drop_eq_getElem_cons (by rw [List.length_map]; exact lp), List.getElem_map] at e
      obtain ⟨rfl, rfl⟩ := List.cons.inj e
      have hj := ok.2.2 w[t].2[p] (List.getElem_mem lp)
      obtain ⟨j, ej⟩ : ∃ j : Nat, w[t].2[p] = (j : Int) := ⟨w[t].2[p].toNat, by omega⟩
      have lj : j < w.length := by omega
      have hg : w[t].2[p]? = some (j : Int) := by rw [List.getElem?_eq_getElem lp, ej]
      have jt : j ≠ t := by
        obtain ⟨_, _, _, rk, _, r2⟩ := hw
        have := r2 t w[t] hs w[t].2[p] (List.getElem_mem lp)
        rw [ej, Int.toNat_natCast] at this
        intro z
        subst z
        omega
      have tL : t < L.length := by rw [J.len]; exact lt
      have jL : j < L.length := by rw [J.len]; exact lj
      have ht : L[t]? = some L[t] := List.getElem?_eq_getElem tL
      have hl2 : L[j]? = some L[j] := List.getElem?_eq_getElem jL
      have small : ∀ (i : Nat) (l : List Int), L[i]? = some l → l.length ≤ 100 := fun i l hi => by
        refine Nat.le_trans (pig w.length _ (J.nd i l hi) fun x hx => ?_) hn
        obtain ⟨b, rfl, z⟩ := (J.mem i l hi x).mp hx
        have : b < w.length := by
          rcases z with (⟨_, z⟩ | ⟨z, s, z2, z3⟩) | (⟨z, _⟩ | ⟨z, _⟩)
          · exact (z.lt hw).1
          · rw [hs] at z2
            cases z2
            have := (ok.2.2 _ (List.mem_of_mem_take z3)).2
            omega
          · omega
          · omega
        omega
      simp only [startD, List.length_cons, List.length_nil, List.map_cons, List.map_nil, List.replicate, List.cons_append, List.nil_append, Nat.sub_self, Nat.zero_add, Nat.add_sub_cancel, Nat.reduceAdd, Nat.reduceSub, gt, sv, tV, t2, tK, tCl, tConsA, tNilA, tDk, tSq, dSet, dPar, tIfD, tTst, tFz, tTupD, tLstD, tApp, dAppPop, tPut, tPop, tIdx, tSeqI, tYesD, tBor, dExt, wipeD, gN, gTupD, gConsD, gNilD, tComp, kLen, kInt, kAbs, kMax2, kTupl, kListF, kI, NoC, kEq, true_and, tSlF, tSl2, tAndD, tOrD, tAndE, tOrE, t1, kNeg, kIsN, id_eq]
      rw [ej]
      simp only [tOoI, gt, tV, sv]
      refine ⟨t, L[t].map PyData.int, rfl, by rw [List.getElem?_map, ht]; rfl, ?_⟩
      refine ⟨⟨rfl, flat_ints _⟩, ?_⟩
      rw [memD_ints]
      cases hb : L[t].any (· == (j : Int)) with
      | true =>
        have m := any_is.mp hb
        exact hk2 _ ⟨p + 1, L, _, rfl, J.skip hs hg ht m, rfl, by omega⟩
      | false =>
        have m : (j : Int) ∉ L[t] := fun z => by rw [any_is.mpr z] at hb; cases hb
        simp only [startD, List.length_cons, List.length_nil, List.map_cons, List.map_nil, List.replicate, List.cons_append, List.nil_append, Nat.sub_self, Nat.zero_add, Nat.add_sub_cancel, Nat.reduceAdd, Nat.reduceSub, gt, sv, tV, t2, tK, tCl, tConsA, tNilA, tDk, tSq, dSet, dPar, tIfD, tTst, tFz, tTupD, tLstD, tApp, dAppPop, tPut, tPop, tIdx, tSeqI, tYesD, tBor, dExt, wipeD, gN, gTupD, gConsD, gNilD, tComp, kLen, kInt, kAbs, kMax2, kTupl, kListF, kI, NoC, kEq, true_and, tSlF, tSl2, tAndD, tOrD, tAndE, tOrE, t1, kNeg, kIsN, id_eq]
        simp only [tAppAt, gt, tV, sv]
        have s1 := small t _ ht
        have s2 := small j _ hl2
        refine ⟨t, L[t].map PyData.int, rfl, by rw [List.getElem?_map, ht]; rfl, by rw [List.length_map]; omega, ?_⟩
        refine ⟨j, L[j].map PyData.int, rfl, ?_, by rw [List.length_map]; omega, ?_⟩
        · rw [List.getElem?_set_ne (Ne.symm jt), List.getElem?_map, hl2]
          rfl
        · have e5 : ((L.map lstI).set t (.list (L[t].map PyData.int ++ [PyData.int (j : Int)]))).set j (.list (L[j].map PyData.int ++ [PyData.int (t : Int)])) = ((L.set t (L[t] ++ [(j : Int)])).set j (L[j] ++ [(t : Int)])).map lstI := by
            rw [List.map_set, List.map_set]
            simp [lstI]
          rw [e5]
          exact hk2 _ ⟨p + 1, _, _, rfl, J.add hs hg jt ht hl2 m, rfl, by omega⟩
    · rintro ρ ⟨p, L, o5, rfl, J, e, hp⟩
      have : p = w[t].2.length := by
        have := congrArg List.length e
        rw [List.length_drop, List.length_nil, List.length_map] at this
        omega
      subst this
      exact hk _ ⟨t + 1, L, _, _, _, _, rfl, J.full hs, rfl, by omega⟩
  · rintro ρ ⟨t, L, o2, o3, o4, o5, rfl, J, e, hi⟩
    have : t = w.length := by
      have := congrArg List.length e
      rw [List.length_drop, List.length_nil, enD_len, List.length_map] at this
      omega
    subst this
    exact q L (J.fin hw)
end
end PP

set_option Elab.async false
set_option linter.all false
set_option maxRecDepth 100000
set_option maxHeartbeats 2000000
namespace PP
open PySem PySem.Spec PyProof.Rows L2
def adjP (w : List SD) (g : Int) : D → Bool
  | .int c => adjB w g c
  | _ => false
def notP (L : List Int) : D → Bool
  | .int c => !(L.any (· == c))
  | _ => false
def pairF : D → D
  | .tuple (a :: b :: _) => .tuple [a, b]
  | d => d
def ownP (ow : List Int) (f : Int) : D → Bool
  | .int x => ow.getD x.toNat 0 == f
  | _ => false
def firstF (w : List SD) (ow : List Int) : D → D
  | .int f => tupI ((stepsI w).filter fun x => ow.getD x.toNat 0 == f)
  | d => d
section
variable {P : Program} {w : World} {K : PySem.W.Frag} {mg : Str → Option Value} {base : Heap}
abbrev s_law_pairs : Stmt := topS 22
theorem sc_law_pairs : FnScope ["web", "giver", "taker", "place"] ["web"] (defScope s_law_pairs) := ⟨rfl, rfl, rfl, by decide +kernel, rfl, by decide +kernel, by decide +kernel⟩
theorem d_law_pairs (m : Nm K mg) (h : Hd K mg "_law_pairs" s_law_pairs ["web"]) (c_law_ties : Cl P w K mg base 2 "_law_ties" ["web"] [.val] kTiesL) : Cl P w K mg base 3 "_law_pairs" ["web"] [.val] kPairs := by
  have nd := sc_law_pairs.nd
  refine clD (N := ["web", "giver", "taker", "place"]) (M := [.val, .val, .val, .val]) h sc_law_pairs kPairs_mono rfl rfl rfl (by decide) ⟨_, fun f cdv A outer s H E e hr hg => have hu := hr.units; have hu8 := hr.un80;
    (dss_one (ds_ret (FE.de (fe_sortSetR (by rfl) hu (by rfl) m.nsorted (by rfl) m.nset (ar_cons (DE.re (FE.de (fe_comp (own := [("giver", 1), ("taker", 2), ("place", 3)]) (by rfl) nd (di_seq (cl c_law_ties (hr.mono (by decide)) hg (ga_val (dv 0) ga_nil))) (by exact blkOk_by (by kernel_rfl)) (fun _ _ _ _ _ => (gt_tup (n := 3) (by rfl) (gts_cons (gn (L := [1, 2, 3]) 1 nd) (gts_cons (gn (L := [1, 2, 3]) 2 nd) (gts_cons (gn (L := [1, 2, 3]) 3 nd) gts_nil))))) (fun _ _ _ _ _ => dts_nil) (fun _ _ _ _ _ => (de_tup (ae_cons (dv 1) (ae_cons (dv 2) ae_nil))))))) ar_nil))))), fun ds Q q => ?_⟩
  obtain ⟨w, rfl, hw, q⟩ := q
  have big := line_big
  have hn := hw.2.1
  have h3 : ∀ s ∈ w, s.2.length ≤ 3 := fun s hs => (hw.2.2.1 s hs).1
  have b2 := tiesTo_len h3 w.length (by omega)
  rw [tiesTo_all] at b2
  have b3 : (srtR (tiesL w)).length = (tiesL w).length := (srtR_perm _).length_eq
  have bd : ∀ r ∈ srtR (tiesL w), ∃ (t p : Nat) (g : Int), r = [g, (t : Int), (p : Int)] ∧ t < w.length ∧ (0 ≤ g ∧ g < w.length) ∧ g ∈ inpD w t := by
    intro r hr
    obtain ⟨t, p, s, g, e1, e2, rfl⟩ := mem_tiesL.mp ((srtR_perm _).mem_iff.mp hr)
    obtain ⟨lt, es⟩ := List.getElem?_eq_some_iff.mp e1
    have gm := List.mem_of_getElem? e2
    refine ⟨t, p, g, rfl, lt, (hw.2.2.1 s (List.mem_of_getElem? e1)).2.2 g gm, ?_⟩
    unfold inpD
    rw [Int.toNat_natCast, getD_at lt, es]
    exact gm
  simp only [startD, List.length_cons, List.length_nil, List.map_cons, List.map_nil, List.replicate, List.cons_append, List.nil_append, Nat.sub_self, Nat.zero_add, Nat.add_sub_cancel, Nat.reduceAdd, Nat.reduceSub, gt, sv, tV, t2, tK, tCl, tConsA, tNilA, tDk, tSq, dSet, dPar, tIfD, tTst, tFz, tTupD, tLstD, tApp, dAppPop, tPut, tPop, tIdx, tSeqI, tYesD, tBor, dExt, wipeD, gN, gTupD, gConsD, gNilD, tComp, kLen, kInt, kAbs, kMax2, kTupl, kListF, kI, NoC, kEq, true_and, tSlF, tSl2, tAndD, tOrD, tAndE, tOrE, t1, kNeg, kIsN, id_eq]
  refine ⟨w, rfl, hw.up (by decide), ?_⟩
  refine ⟨by rw [List.length_map]; omega, compD_map pairF (fun x hx kk hkk => ?_) ?_⟩
  · obtain ⟨r, hr, rfl⟩ := List.mem_map.mp hx
    obtain ⟨t, p, g, rfl, _, _, _⟩ := bd r hr
    simp only [startD, List.length_cons, List.length_nil, List.map_cons, List.map_nil, List.replicate, List.cons_append, List.nil_append, Nat.sub_self, Nat.zero_add, Nat.add_sub_cancel, Nat.reduceAdd, Nat.reduceSub, gt, sv, tV, t2, tK, tCl, tConsA, tNilA, tDk, tSq, dSet, dPar, tIfD, tTst, tFz, tTupD, tLstD, tApp, dAppPop, tPut, tPop, tIdx, tSeqI, tYesD, tBor, dExt, wipeD, gN, gTupD, gConsD, gNilD, tComp, kLen, kInt, kAbs, kMax2, kTupl, kListF, kI, NoC, kEq, true_and, tSlF, tSl2, tAndD, tOrD, tAndE, tOrE, t1, kNeg, kIsN, id_eq]
    exact ⟨rfl, by omega, hkk⟩
  · have e1 : ((srtR (tiesL w)).map rowD).map pairF = ((srtR (tiesL w)).map fun r => [r.getD 0 0, r.getD 1 0]).map rowD := by
      rw [List.map_map, List.map_map]
      apply List.map_congr_left
      intro r hr
      obtain ⟨t, p, g, rfl, _, _, _⟩ := bd r hr
      rfl
    rw [e1]
    refine ⟨_, 2, 100, rfl, by rw [List.length_map]; omega, by decide, fun n hn2 => ?_, fun ms nd hm l6 _ => q ms l6 (fun n hn2 => ?_) fun a b b0 b1 hab => ?_⟩
    · obtain ⟨r, hr, rfl⟩ := List.mem_map.mp hn2
      obtain ⟨t, p, g, rfl, h1, h2, _⟩ := bd r hr
      refine ⟨rfl, fun m hm => ?_⟩
      have hm : m = g ∨ m = (t : Int) := by simpa using hm
      rcases hm with e | e <;> omega
    · obtain ⟨r, hr, rfl⟩ := List.mem_map.mp ((hm n).mp hn2)
      obtain ⟨t, p, g, rfl, h1, h2, h4⟩ := bd r hr
      exact ⟨g, t, rfl, ⟨by omega, by omega⟩, h4⟩
    · refine (hm _).mpr (List.mem_map.mpr ?_)
      obtain ⟨b, rfl, hl⟩ := nat_ix b0 b1
      unfold inpD at hab
      rw [Int.toNat_natCast, getD_at hl] at hab
      obtain ⟨p, hp, e⟩ := List.mem_iff_getElem.mp hab
      exact ⟨[a, (b : Int), (p : Int)], (srtR_perm _).mem_iff.mpr (mem_tiesL.mpr ⟨b, p, w[b], a, List.getElem?_eq_getElem hl, by rw [List.getElem?_eq_getElem hp, e], rfl⟩), rfl⟩
end
end PP

set_option Elab.async false
set_option linter.all false
set_option maxRecDepth 100000
set_option maxHeartbeats 2000000
namespace PP
open PySem PySem.Spec PyProof.Rows L2
abbrev SearchF : List (Str × Fk) := [("near", .val), ("ranks", .od), ("lows", .od), ("path", .own), ("found", .own)]
section
variable {P : Program} {w : World} {K : PySem.W.Frag} {mg : Str → Option Value} {base : Heap}
abbrev sSearch_visit : Stmt := (C8.clsBody (topS 6)).getD 1 (.Pass ⟨0, 0, 0, 0⟩)
abbrev sSearch_path_from : Stmt := (C8.clsBody (topS 6)).getD 2 (.Pass ⟨0, 0, 0, 0⟩)
abbrev sSearch_init : Stmt := (C8.clsBody (topS 6)).getD 0 (.Pass ⟨0, 0, 0, 0⟩)
structure SearchC (K : PySem.W.Frag) (mg : Str → Option Value) : Prop where
  cf : ClsF K "Search" (SearchF.map (·.1))
  ini : ∃ C fi fd, mg "Search" = some (.ref C) ∧ OneC K "Search" C ∧ Mk K C fi ∧ Binds K fd ["self", "web"] [] ∧ Fun K "__init__" "Search.__init__" sSearch_init fi fd
  visit : ∃ f fd, (∀ C, OneC K "Search" C → Meth K C "visit" f) ∧ Binds K fd ["self", "step", "before"] [] ∧ Fun K "visit" "Search.visit" sSearch_visit f fd
  path_from : ∃ f fd, (∀ C, OneC K "Search" C → Meth K C "path_from" f) ∧ Binds K fd ["self", "step"] [] ∧ Fun K "path_from" "Search.path_from" sSearch_path_from f fd
theorem search_mk {h : Heap} {C f0 f1 f2 : Addr} {od0 an0 od1 an1 od2 an2 : Option Addr} {sl0 sl1 sl2 : Array (Option Value)} {oc0 kV0 dc0 pm0 cd0 ct0 oc1 kV1 dc1 pm1 cd1 ct1 oc2 kV2 dc2 pm2 cd2 ct2 : Value} (X : K.In h) (G : h.Ns mainGlobals mg)
    (aC : PySem.W.nsIn K mainGlobals "Search" = some (some (.ref C)))
    (a0 : PySem.W.findIn K (.ref C) "__init__" = some (some (.ref f0))) (i0 : PySem.W.isFn K (.ref f0) = true) (l0 : K.lookup f0 = some ⟨oc0, od0, .func (PySem.W.fnOf "__init__" "Search.__init__" (defArgs sSearch_init) (defBody sSearch_init) (defScope sSearch_init) .none kV0 dc0 pm0 an0 cd0 ct0), sl0⟩) (c0 : PySem.W.codeIn K cd0 "Search.__init__" = true) (k0 : PySem.W.keepIn K (.ref f0) = true)
    (a1 : PySem.W.findIn K (.ref C) "visit" = some (some (.ref f1))) (i1 : PySem.W.isFn K (.ref f1) = true) (l1 : K.lookup f1 = some ⟨oc1, od1, .func (PySem.W.fnOf "visit" "Search.visit" (defArgs sSearch_visit) (defBody sSearch_visit) (defScope sSearch_visit) .none kV1 dc1 pm1 an1 cd1 ct1), sl1⟩) (c1 : PySem.W.codeIn K cd1 "Search.visit" = true) (k1 : PySem.W.keepIn K (.ref f1) = true)
    (a2 : PySem.W.findIn K (.ref C) "path_from" = some (some (.ref f2))) (i2 : PySem.W.isFn K (.ref f2) = true) (l2 : K.lookup f2 = some ⟨oc2, od2, .func (PySem.W.fnOf "path_from" "Search.path_from" (defArgs sSearch_path_from) (defBody sSearch_path_from) (defScope sSearch_path_from) .none kV2 dc2 pm2 an2 cd2 ct2), sl2⟩) (c2 : PySem.W.codeIn K cd2 "Search.path_from" = true) (k2 : PySem.W.keepIn K (.ref f2) = true)
    (pg : PySem.W.plainGet K C Str.empty = true) (hd : PySem.W.hasDictIn K C = true) (po : PySem.W.plainOver K C = true) (sa : PySem.W.findIn K (.ref C) "__setattr__" = some (some (.builtin "object.__setattr__"))) (mk : PySem.W.makesIn K C = true) (kc : PySem.W.keepIn K (.ref C) = true)
    (nnear : PySem.W.findIn K (.ref C) "near" = some none) (nranks : PySem.W.findIn K (.ref C) "ranks" = some none) (nlows : PySem.W.findIn K (.ref C) "lows" = some none) (npath : PySem.W.findIn K (.ref C) "path" = some none) (nfound : PySem.W.findIn K (.ref C) "found" = some none) : SearchC K mg := by
  have one : ∀ C', OneC K "Search" C' → C' = C := fun C' hc => by
    have e : some (some (Value.ref C')) = some (some (Value.ref C)) := (show PySem.W.nsIn K mainGlobals "Search" = some (some (.ref C')) from hc).symm.trans aC
    exact Value.ref.inj (Option.some.inj (Option.some.inj e))
  have F0 := fun_mk (st := sSearch_init) l0 c0 k0

  have F1 := fun_mk (st := sSearch_visit) l1 c1 k1
  have F2 := fun_mk (st := sSearch_path_from) l2 c2 k2
  have b0 := F0.binds (ps := ["self", "web"]) fun _ _ _ _ _ _ us hl => match us, hl with | [_, _], _ => rfl
  have b1 := F1.binds (ps := ["self", "step", "before"]) fun _ _ _ _ _ _ us hl => match us, hl with | [_, _, _], _ => rfl
  have b2 := F2.binds (ps := ["self", "step"]) fun _ _ _ _ _ _ us hl => match us, hl with | [_, _], _ => rfl
  refine ⟨⟨fun C' hc => ?_, fun C' f hc hf => ?_⟩, ⟨C, f0, _, PySem.W.mg_of X G aC, aC, ⟨mk, a0, i0, kc⟩, b0, F0⟩, ⟨f1, _, fun C' hc => (by rw [one C' hc]; exact ⟨a1, i1, k1⟩), b1, F1⟩, ⟨f2, _, fun C' hc => (by rw [one C' hc]; exact ⟨a2, i2, k2⟩), b2, F2⟩⟩
  · rw [one C' hc]; exact ⟨pg, hd, po, sa⟩
  · rw [one C' hc]
    simp only [SearchF, List.map_cons, List.map_nil, List.mem_cons, List.not_mem_nil, or_false] at hf
    rcases hf with rfl | rfl | rfl | rfl | rfl
    · exact nnear
    · exact nranks
    · exact nlows
    · exact npath
    · exact nfound
end
end PP

set_option Elab.async false
set_option linter.all false
set_option maxRecDepth 100000
set_option maxHeartbeats 2000000
namespace PP
open PySem PySem.Spec PyProof.Rows L2
section
variable {P : Program} {w : World} {K : PySem.W.Frag} {mg : Str → Option Value} {base : Heap}
def kSIni : KInit := fun ds Q => ∃ w : List SD, ds = [webD w] ∧ Wb 100 w ∧ ∀ L, NearOk w L → Q [(.str "near", .list (L.map lstI)), (.str "ranks", .dict []), (.str "lows", .dict []), (.str "path", .list []), (.str "found", .list [])]
theorem kSIni_mono : MonoI kSIni := fun ds Q Q' f ⟨w, h1, h2, q⟩ => ⟨w, h1, h2, fun L h => f _ (q L h)⟩
theorem scSearch_init : FnScope ["self", "web"] ["self", "web"] (defScope sSearch_init) := ⟨rfl, rfl, rfl, by decide +kernel, rfl, by decide +kernel, by decide +kernel⟩
theorem ini_search (G : SearchC K mg) (cnear : Cl P w K mg base 2 "near_steps" ["web"] [.val] kNear) : ClIA P w K mg base 3 "Search" SearchF ["self", "web"] [.val] kSIni := by
  obtain ⟨Cc, fi, fd, m1, m2, m3, m4, F⟩ := G.ini
  refine ⟨⟨Cc, fi, fd, m1, m2, m3, m4, fnG_of F scSearch_init (fun vs H Q E ⟨g, F, H0, b, dx, C, vr, ds, e, _, _, _, _, _, _, ar, _⟩ => by rw [e, List.length_cons, ar.len]; rfl) fun cdv A outer s H vs Q E hr hg h => ?_⟩, kSIni_mono⟩
  obtain ⟨g, F0, H0, b, dx, C, vr, ds, rfl, rfl, hb0, hd0, bd, one, bs, ar, wb, rfl, hw, q⟩ := h
  obtain ⟨d1, dr, v, vr', e1, rfl, r1, e2, rfl⟩ := ar
  cases e1
  have t0 : Stp g F0 H0 F0 (upd (upd H0 dx (.own b)) b (.ins C dx [])) := (bs.hide hd0 _).trans (((bs.hide hd0 (.own b)).bs bs).hide (by rw [upd_ne bd]; exact hb0) _)
  have sr : SR K ⟨g, F0, upd (upd H0 dx (.own b)) b (.ins C dx []), F0⟩ [.val, .val] g F0 (upd (upd H0 dx (.own b)) b (.ins C dx [])) (L2.start ["self", "web"] [.ref b, v]) [none, some (webD wb)] := by
    refine ⟨t0.bs bs, (t0.bs bs).refl, .inl rfl, rfl, fun i d h => ?_, fun i j v w p _ h1 _ _ _ h5 _ => ?_, .refl _, trivial⟩
    · match i, h with
      | 1, h => cases h; exact ⟨v, rfl, r1⟩
      | 0, h => cases h
      | i + 2, h => cases h
    · match i, h1, h5 with
      | 0, h1, _ => exact absurd rfl h1
      | 1, _, h5 => exact h5.elim
      | i + 2, h1, _ => exact absurd rfl h1
  have nbm : ¬ g.mem b := fun z => g.dom _ bs.ok b z hb0
  have nF : F0 b = none := bs.sub.none hb0
  have nFd : F0 dx = none := bs.sub.none hd0
  refine ⟨_, (pss_cons (ps_fld (X := (cxOf CX0 P w K mg base ["self", "web"] "Search.__init__" (defScope sSearch_init) fi cdv A outer s (upd (upd H0 dx (.own b)) b (.ins C dx [])) E).nox) (pv 0) (cl (e := ⟨g, F0, upd (upd H0 dx (.own b)) b (.ins C dx []), F0⟩) (M := [.val, .val]) cnear (hr.mono (by decide)) hg (ga_val (dv 1) ga_nil)).pe (by rfl))
    (pss_cons (ps_fld (pv 0) pe_dnewK (by rfl)) (pss_cons (ps_fld (pv 0) pe_dnewK (by rfl)) (pss_cons (ps_fld (pv 0) (pe_lst pa_nil) (by rfl)) (pss_one (ps_fld (pv 0) (pe_lst pa_nil) (by rfl))))))).nox, ?_⟩
  refine ⟨g, F0, _, sr, wb, rfl, hw, fun L hL F1 H1 nv t1 rn => ?_⟩
  have k0 : H1 b = some (.ins C dx []) := t1.keep _ _ upd_same nbm
  have kd : H1 dx = some (.own b) := t1.keep _ _ (by rw [upd_ne (Ne.symm bd)]; exact upd_same) fun z => g.dom _ bs.ok dx z hd0
  have t01 := t0.trans t1
  have b1 := t01.bs bs
  have fb : F1 b = none := t1.no upd_same nF
  have fd1 : F1 dx = none := t1.no (by rw [upd_ne (Ne.symm bd)]; exact upd_same) nFd
  have gm : ∀ {p : Addr}, H0 p = none → ¬ g.mem p := fun h z => g.dom _ bs.ok _ z h
  refine ⟨.ref b, rfl, b, C, dx, [], rfl, k0, G.cf.cl C one, G.cf.na C "near" one (by decide), by decide, fun p1 n1 => ?_⟩
  have b1p : p1 ≠ b := fun z => by rw [z, upd_same] at n1; cases n1
  have n1' : H1 p1 = none := by rw [upd_ne b1p] at n1; exact n1
  have d1p : p1 ≠ dx := fun z => by rw [z, kd] at n1'; cases n1'
  refine ⟨.ref b, rfl, b, C, dx, [("near", nv)], rfl, by rw [upd_ne (Ne.symm b1p)]; exact upd_same, G.cf.cl C one, G.cf.na C "ranks" one (by decide), by show 1 < 1000; decide, fun p2 n2 => ?_⟩
  have b2p : p2 ≠ b := fun z => by rw [z, upd_same] at n2; cases n2
  rw [upd_ne b2p] at n2
  have p21 : p2 ≠ p1 := fun z => by rw [z, upd_same] at n2; cases n2
  rw [upd_ne p21, upd_ne b2p] at n2
  have d2p : p2 ≠ dx := fun z => by rw [z, kd] at n2; cases n2
  refine ⟨.ref b, rfl, b, C, dx, [("near", nv), ("ranks", .ref p1)], rfl, by rw [upd_ne (Ne.symm b2p)]; exact upd_same, G.cf.cl C one, G.cf.na C "lows" one (by decide), by show 2 < 1000; decide, Nat.zero_le _, fun p3 n3 => ?_⟩
  have b3p : p3 ≠ b := fun z => by rw [z, upd_same] at n3; cases n3
  rw [upd_ne b3p] at n3
  have p32 : p3 ≠ p2 := fun z => by rw [z, upd_same] at n3; cases n3
  rw [upd_ne p32, upd_ne b3p] at n3
  have p31 : p3 ≠ p1 := fun z => by rw [z, upd_same] at n3; cases n3
  rw [upd_ne p31, upd_ne b3p] at n3
  have d3p : p3 ≠ dx := fun z => by rw [z, kd] at n3; cases n3
  refine ⟨.ref b, rfl, b, C, dx, [("near", nv), ("ranks", .ref p1), ("lows", .ref p2)], rfl, by rw [upd_ne (Ne.symm b3p)]; exact upd_same, G.cf.cl C one, G.cf.na C "path" one (by decide), by show 3 < 1000; decide, Nat.zero_le _, fun p4 n4 => ?_⟩
  have b4p : p4 ≠ b := fun z => by rw [z, upd_same] at n4; cases n4
  rw [upd_ne b4p] at n4
  have p43 : p4 ≠ p3 := fun z => by rw [z, upd_same] at n4; cases n4
  rw [upd_ne p43, upd_ne b4p] at n4
  have p42 : p4 ≠ p2 := fun z => by rw [z, upd_same] at n4; cases n4
  rw [upd_ne p42, upd_ne b4p] at n4
  have p41 : p4 ≠ p1 := fun z => by rw [z, upd_same] at n4; cases n4
  rw [upd_ne p41, upd_ne b4p] at n4
  have d4p : p4 ≠ dx := fun z => by rw [z, kd] at n4; cases n4
  refine ⟨.ref b, rfl, b, C, dx, [("near", nv), ("ranks", .ref p1), ("lows", .ref p2), ("path", .ref p3)], rfl, by rw [upd_ne (Ne.symm b4p)]; exact upd_same, G.cf.cl C one, G.cf.na C "found" one (by decide), by show 4 < 1000; decide, ?_⟩
  have o1 := t01.old n1'
  have o2 := t01.old n2
  have o3 := t01.old n3
  have o4 := t01.old n4
  have f1 := b1.sub.none n1'
  have f2 := b1.sub.none n2
  have f3 := b1.sub.none n3
  have f4 := b1.sub.none n4
  refine q L hL F1 _ [("near", nv), ("ranks", .ref p1), ("lows", .ref p2), ("path", .ref p3), ("found", .ref p4)] ?_ ⟨C, upd_same, ?_, ⟨nv, _, _, _, rfl, rfl, rn, .ref p1, _, _, _, rfl, rfl, ⟨p1, [], [], rfl, rfl, ?_, rfl, f1, o1, gm o1⟩, .ref p2, _, _, _, rfl, rfl, ⟨p2, [], [], rfl, rfl, ?_, rfl, f2, o2, gm o2⟩, .ref p3, _, _, _, rfl, rfl, ⟨p3, [], [], rfl, rfl, ?_, rfl, f3, o3, gm o3⟩, .ref p4, _, _, _, rfl, rfl, ⟨p4, [], [], rfl, rfl, ?_, rfl, f4, o4, gm o4⟩, rfl, rfl⟩, ⟨fb, fd1⟩, ⟨nbm, gm hd0⟩, ⟨hb0, hd0⟩, ?_, one⟩
  · exact ((((((((t01.poke hb0 fb nbm _).poke o1 f1 (gm o1) _).poke hb0 fb nbm _).poke o2 f2 (gm o2) _).poke hb0 fb nbm _).poke o3 f3 (gm o3) _).poke hb0 fb nbm _).poke o4 f4 (gm o4) _).poke hb0 fb nbm _
  · rw [upd_ne (Ne.symm bd), upd_ne (Ne.symm d4p), upd_ne (Ne.symm bd), upd_ne (Ne.symm d3p), upd_ne (Ne.symm bd), upd_ne (Ne.symm d2p), upd_ne (Ne.symm bd), upd_ne (Ne.symm d1p), upd_ne (Ne.symm bd)]
    exact kd
  · rw [upd_ne b1p, upd_ne (Ne.symm p41), upd_ne b1p, upd_ne (Ne.symm p31), upd_ne b1p, upd_ne (Ne.symm p21), upd_ne b1p, upd_same]
  · rw [upd_ne b2p, upd_ne (Ne.symm p42), upd_ne b2p, upd_ne (Ne.symm p32), upd_ne b2p, upd_same]
  · rw [upd_ne b3p, upd_ne (Ne.symm p43), upd_ne b3p, upd_same]
  · rw [upd_ne b4p, upd_same]
  · show [p1, p2, p3, p4].Nodup
    simp [Ne.symm p21, Ne.symm p31, Ne.symm p32, Ne.symm p41, Ne.symm p42, Ne.symm p43]
end
end PP

set_option Elab.async false
set_option linter.all false
set_option maxRecDepth 100000
set_option maxHeartbeats 2000000
namespace PP
open PySem PySem.Spec PyProof.Rows L2
theorem dset_look {f : Str} {d x : D} : ∀ {ks : List (D × D)}, dlook f ks = some x → dlook f (dset f d ks) = some d
  | [], h => by cases h
  | (k, y) :: r, h => by
    unfold dset
    cases k with
    | str g =>
      have h : (if f = g then some y else dlook f r) = some x := h
      show dlook f (if g = f then (.str g, d) :: r else (.str g, y) :: dset f d r) = some d
      by_cases c : g = f
      · rw [if_pos c]
        show (if f = g then some d else dlook f r) = some d
        rw [if_pos c.symm]
      · rw [if_neg c]
        rw [if_neg (fun z => c z.symm)] at h
        show (if f = g then some y else dlook f (dset f d r)) = some d
        rw [if_neg (fun z => c z.symm)]
        exact dset_look h
    | _ => exact dset_look (ks := r) h
theorem look_putF {f h : Str} {v : V} (n : f ≠ h) {fs : List (Str × V)} : (putF h v fs).lookup f = fs.lookup f := (lookup_putF h f v fs).trans (if_neg n)
def kPF : KM := fun ks ds Q => ∃ (A B : List Int) (k : Int), dlook "path" ks = some (.list ((A ++ k :: B).map PyData.int)) ∧ k ∉ A ∧ ds = [.int k] ∧ Q (.list ((k :: B).map PyData.int)) (dset "path" (.list (A.map PyData.int)) ks)
theorem kPF_mono : MonoKM kPF := fun ks ds Q Q' f ⟨A, B, k, h1, h2, h3, q⟩ => ⟨A, B, k, h1, h2, h3, f _ _ q⟩
section
variable {P : Program} {w : World} {K : PySem.W.Frag} {mg : Str → Option Value} {base : Heap}
theorem scSearch_path_from : FnScope ["self", "step", "at", "found"] ["self", "step"] (defScope sSearch_path_from) := ⟨rfl, rfl, rfl, by decide +kernel, rfl, by decide +kernel, by decide +kernel⟩
theorem cutV_drop {xs : List V} {n : Nat} (h : n ≤ xs.length) : cutV xs (some (n : Int)) none = xs.drop n := by
  unfold cutV
  rw [HT.sIx_nat, HT.sIx_none, Nat.min_eq_left h, List.take_of_length_le (by rw [List.length_drop]; exact Nat.le_refl _)]
theorem cutV_take {xs : List V} {n : Nat} (h : n ≤ xs.length) : cutV xs none (some (n : Int)) = xs.take n := by
  unfold cutV
  rw [HT.sIx_nat, HT.sIx_none, Nat.min_eq_left h]
  simp
theorem path_from_ok (G : SearchC K mg) : ClMk P w K mg base 1 "Search" "path_from" SearchF ["self", "step"] [.val] kPF ["found"] := by
  obtain ⟨fp, fd, m1, m2, F⟩ := G.path_from
  refine ⟨⟨fp, fd, m1, m2, fnG_of F scSearch_path_from (fun vs H Q E ⟨g, F, a, dx, fs, ks, vr, ds, e, _, _, ar, _⟩ => by rw [e, List.length_cons, ar.len]; rfl) fun cdv A outer s H vs Q E hr hg h => ?_⟩, kPF_mono⟩
  obtain ⟨g, F0, a, dx, fs, ks, vr, ds, rfl, ob, bs, ar, A0, B0, k, hl, kA, rfl, q⟩ := h
  obtain ⟨d1, dr, v, vr', e1, rfl, r1, e2, rfl⟩ := ar
  cases e1
  obtain ⟨C, h3, h4, h5, h6, h8, h7, h9, one⟩ := ob
  have ev : v = .int k := r1
  subst ev
  obtain ⟨x, d, q1, q2, q3, q4⟩ := h5.at (f := "path") (k := .own) rfl
  rw [hl] at q2
  cases q2
  obtain ⟨p, vs, dd, rfl, e3, k1, k2, k3, k4, k5⟩ := q3
  cases e3
  have evs := RpL.ints_inv k2
  subst evs
  have nd := scSearch_path_from.nd
  have cl := G.cf.cl C one
  have na := G.cf.na C "path" one (by decide)
  have fl : fs.length < 1000 := by rw [h5.len]; decide
  refine ⟨_, (pss_cons (ps_set (X := (cxOf CX0 P w K mg base ["self", "step", "at", "found"] "Search.path_from" (defScope sSearch_path_from) fp cdv A outer s H E).nox) (i := 2) nd rfl (by first | exact .inl rfl | exact .inr rfl) (pe_bm PySem.F.plainAttrs_list PySem.F.slot_list_index PySem.F.type_list_index mt_index (pe_fld (pv 0) (by rfl)) (pa_cons (pv 1) pa_nil)))
    (pss_cons (ps_set (i := 3) nd rfl (by first | exact .inl rfl | exact .inr rfl) (pe_slice sl_list (pe_fld (pv 0) (by rfl)) (po_some (pv 2)) po_none))
    (pss_cons (ps_fld (pv 0) (pe_slice sl_list (pe_fld (pv 0) (by rfl)) po_none (po_some (pv 2))) (by rfl))
    (pss_one (ps_ret (pv 3)))))).nox, ?_⟩
  have at_ : ((A0 ++ k :: B0).map V.int)[A0.length]? = some (.int k) := by rw [List.getElem?_map, List.getElem?_append_right (Nat.le_refl _)]; simp
  refine ⟨.ref a, rfl, a, C, dx, fs, .ref p, rfl, h3, cl, na, q1, .inl ⟨rfl, _, .inl (.inl k1)⟩, .int k, rfl, p, _, .int k, A0.length, .int k, rfl, rfl, .inl (.inl k1), rfl, by simp [flatV], at_, by simp [eqV], fun j z hj hz => ?_, ?_⟩
  · rw [List.getElem?_map, List.getElem?_append_left hj] at hz
    cases q : A0[j]? with
    | none => rw [q] at hz; cases hz
    | some y =>
      rw [q] at hz
      cases hz
      have : y ≠ k := fun e => kA (e ▸ List.mem_of_getElem? q)
      simpa [eqV] using this
  have ll : A0.length ≤ ((A0 ++ k :: B0).map V.int).length := by simp
  refine ⟨.ref a, rfl, a, C, dx, fs, .ref p, rfl, h3, cl, na, q1, .int (A0.length : Nat), rfl, (A0.length : Nat), rfl, p, _, rfl, .inl (.inl k1), fun pf nf => ?_⟩
  rw [cutV_drop ll]
  have fa : pf ≠ a := fun z => by rw [z, h3] at nf; cases nf
  have fdx : pf ≠ dx := fun z => by rw [z, h4] at nf; cases nf
  have fp : pf ≠ p := fun z => by rw [z, k1] at nf; cases nf
  have nF := bs.sub.none nf
  refine ⟨.ref a, rfl, a, C, dx, fs, .ref p, rfl, by rw [upd_ne (Ne.symm fa)]; exact h3, cl, na, q1, .int (A0.length : Nat), rfl, (A0.length : Nat), rfl, p, _, rfl, .inl (.inl (by rw [upd_ne (Ne.symm fp)]; exact k1)), fun pn nn => ?_⟩
  rw [cutV_take ll]
  have nf2 : pn ≠ pf := fun z => by rw [z, upd_same] at nn; cases nn
  rw [upd_ne nf2] at nn
  have na2 : pn ≠ a := fun z => by rw [z, h3] at nn; cases nn
  have nd2 : pn ≠ dx := fun z => by rw [z, h4] at nn; cases nn
  have np2 : pn ≠ p := fun z => by rw [z, k1] at nn; cases nn
  refine ⟨.ref a, rfl, a, C, dx, fs, rfl, by rw [upd_ne (Ne.symm na2), upd_ne (Ne.symm fa)]; exact h3, cl, na, fl, .ref pf, rfl, ?_⟩
  have edrop : ((A0 ++ k :: B0).map V.int).drop A0.length = (k :: B0).map V.int := by rw [← List.map_drop, List.drop_left]
  have etake : ((A0 ++ k :: B0).map V.int).take A0.length = A0.map V.int := by rw [← List.map_take, List.take_left]
  rw [edrop, etake]
  have t1 : Stp g F0 H (upd F0 pf (.lst ((k :: B0).map V.int))) (upd H pf (.lst ((k :: B0).map V.int))) := bs.alloc nf _
  have t2 : Stp g F0 H (upd F0 pf (.lst ((k :: B0).map V.int))) (upd (upd H pf (.lst ((k :: B0).map V.int))) pn (.lst (A0.map V.int))) := t1.trans ((t1.bs bs).hide (by rw [upd_ne nf2]; exact nn) _)
  have eqH : ∀ b, b ≠ a → b ≠ pf → b ≠ pn → (upd (upd (upd H pf (.lst ((k :: B0).map V.int))) pn (.lst (A0.map V.int))) a (.ins C dx (putF "path" (.ref pn) fs))) b = H b := fun b h1 h2 h3 => by rw [upd_ne h1, upd_ne h3, upd_ne h2]
  have dxa : dx ≠ a := fun z => by rw [z, h3] at h4; cases h4
  have ne_ : ∀ {b : Addr} {o : HO}, H b = some o → b ≠ pf ∧ b ≠ pn := fun {b o} h => ⟨fun z => (by rw [z, nf] at h; cases h), fun z => (by rw [z, nn] at h; cases h)⟩
  have own := h5.ours
  have Un : ∀ {b : Addr}, H b = none → unown H a dx (ownA SearchF fs) b = none := fun {b} h => by
    unfold unown
    split
    · rfl
    · exact h
  have gm : ∀ {b : Addr}, H b = none → ¬ g.mem b := fun h z => g.dom _ bs.ok _ z h
  refine q (upd F0 pf (.lst ((k :: B0).map V.int))) _ _ dx (putF "path" (.ref pn) fs) ⟨t1.mono, fun b o h => ?_, fun b o h => ?_, fun b o h hm => ?_, ?_⟩ ⟨C, upd_same, ?_, ?_, ⟨?_, ?_⟩, h8, h7, (ownA_put (f := "path") (q := pn) (fun z => ?_) h9).1, one⟩ ⟨pf, _, rfl, upd_same, RpL.ints _⟩ fun f hf => look_putF (fun z => ?_)
  · have hb := t2.sub b o h
    have : b ≠ a := fun z => by
      rw [z, upd_ne (Ne.symm fa), h6.1] at h
      cases h
    rw [upd_ne this]
    exact hb
  · by_cases c : b = pf
    · exact .inr (Un (c ▸ nf))
    · rw [upd_ne c] at h
      exact .inl h
  · have hb : ¬ (b = a ∨ b = dx ∨ b ∈ ownA SearchF fs) := fun z => by
      unfold unown at h
      rw [if_pos z] at h
      cases h
    have hH : H b = some o := by
      unfold unown at h
      rw [if_neg hb] at h
      exact h
    rw [eqH b (fun z => hb (.inl z)) (ne_ hH).1 (ne_ hH).2]
    exact hH
  · refine g.loc _ _ (fun b hb => ?_) bs.ok
    have n0 : H b ≠ none := g.dom _ bs.ok b hb
    exact eqH b (fun z => h8.1 (z ▸ hb)) (fun z => n0 (z ▸ nf)) (fun z => n0 (z ▸ nn))
  · rw [eqH dx dxa (Ne.symm fdx) (Ne.symm nd2)]
    exact h4
  · refine FldsOk.put (k := .own) ⟨pn, A0.map V.int, _, rfl, rfl, ?_, RpL.ints _, ?_, Un nn, gm nn⟩ rfl ((h5.step t2).stay (fun p vs h => ?_) fun p vs h => ?_)
    · rw [upd_ne na2]; exact upd_same
    · rw [upd_ne nf2]; exact bs.sub.none nn
    · have : p ≠ a := fun z => by
        rw [z, upd_ne (Ne.symm na2), upd_ne (Ne.symm fa), h3] at h
        cases h
      rw [upd_ne this]; exact h
    · have : p ≠ a := fun z => by
        rw [z, upd_ne (Ne.symm na2), upd_ne (Ne.symm fa), h3] at h
        cases h
      rw [upd_ne this]; exact h
  · rw [upd_ne (Ne.symm fa)]; exact h6.1
  · rw [upd_ne (Ne.symm fdx)]; exact h6.2
  · rcases own pn z with ⟨vs, h⟩ | ⟨vs, h⟩
    · rw [nn] at h; cases h
    · rw [nn] at h; cases h
  · rw [List.mem_singleton.mp hf] at z
    revert z
    decide
end
end PP

set_option Elab.async false
set_option linter.all false
set_option maxRecDepth 100000
set_option maxHeartbeats 2000000
namespace PP
open PySem PySem.Spec PyProof.Rows L2
/-! ### the walk's state as data -/
def dL (rk : List Int) (f : Int → Nat) : List (D × D) := rk.map fun x => ((.int x : D), (.int ((f x : Nat) : Int) : D))
theorem dL_get {f : Int → Nat} {x : Int} : ∀ {rk : List Int}, dGet (dL rk f) (.inl x) = if x ∈ rk then some (.int ((f x : Nat) : Int)) else none
  | [] => by simp [dL, dGet]
  | y :: r => by
    show (if (some (Sum.inl y) : Option Key) = some (Sum.inl x) then some (PyData.int ((f y : Nat) : Int)) else dGet (dL r f) (.inl x)) = _
    by_cases c : y = x
    · subst c
      rw [if_pos rfl, if_pos (by simp)]
    · rw [if_neg (fun z => c (Sum.inl.inj (Option.some.inj z))), dL_get]
      have : x ∈ y :: r ↔ x ∈ r := by simp [Ne.symm c]
      by_cases d : x ∈ r
      · rw [if_pos d, if_pos (this.mpr d)]
      · rw [if_neg d, if_neg (fun z => d (this.mp z))]
theorem dL_at {f : Int → Nat} {x : Int} {rk : List Int} (h : x ∈ rk) : dGet (dL rk f) (.inl x) = some (.int ((f x : Nat) : Int)) := by rw [dL_get, if_pos h]
theorem dL_is {f : Int → Nat} {x : Int} {rk : List Int} : (dGet (dL rk f) (.inl x)).isSome = decide (x ∈ rk) := by
  rw [dL_get]
  by_cases h : x ∈ rk
  · rw [if_pos h, decide_eq_true h]; rfl
  · rw [if_neg h, decide_eq_false h]; rfl
theorem dL_len (rk : List Int) (f : Int → Nat) : (dL rk f).length = rk.length := by unfold dL; rw [List.length_map]
theorem dL_congr {rk : List Int} {f g : Int → Nat} (h : ∀ x ∈ rk, f x = g x) : dL rk f = dL rk g := List.map_congr_left fun x hx => by rw [h x hx]
theorem dL_new {rk : List Int} {f : Int → Nat} {x : Int} {n : Nat} (h : x ∉ rk) : dPut (dL rk f) (.inl x) (.int (n : Int)) = dL (rk ++ [x]) (updL f x n) := by
  unfold dPut
  rw [dL_is, decide_eq_false h, if_neg (by simp)]
  unfold dL
  rw [List.map_append]
  congr 1
  · refine List.map_congr_left fun y hy => ?_
    rw [updL_ne (fun e : y = x => h (e ▸ hy))]
  · show [((.int x : D), (.int (n : Int) : D))] = [(_, _)]
    rw [updL_same]
theorem dL_old {rk : List Int} {f : Int → Nat} {x : Int} {n : Nat} (h : x ∈ rk) : dPut (dL rk f) (.inl x) (.int (n : Int)) = dL rk (updL f x n) := by
  unfold dPut
  rw [dL_is, decide_eq_true h, if_pos rfl]
  unfold dL
  rw [List.map_map]
  refine List.map_congr_left fun y hy => ?_
  show (if (some (Sum.inl y) : Option Key) = some (Sum.inl x) then ((.int y : D), (.int (n : Int) : D)) else ((.int y : D), (.int ((f y : Nat) : Int) : D))) = _
  by_cases c : y = x
  · rw [if_pos (by rw [c]), c, updL_same]
  · rw [if_neg (fun z => c (Sum.inl.inj (Option.some.inj z))), updL_ne c]
def ssD (L : List (List Int)) (s : Ss) : List (D × D) := [(.str "near", .list (L.map lstI)), (.str "ranks", .dict (dL s.rk fun x => s.rk.idxOf x)), (.str "lows", .dict (dL s.rk s.lo)), (.str "path", .list (s.pa.map PyData.int)), (.str "found", .list (s.fo.map tupI))]
def optD : Option Int → D
  | none => .none
  | some i => .int i
def kVisit (n : Nat) : KM := fun ks ds Q => ∃ (w : List SD) (L : List (List Int)) (s0 : Ss) (u : Int) (b : Option Int) (ch : List Int), ks = ssD L s0 ∧ ds = [.int u, optD b] ∧ Wb 10 w ∧ NearOk w L ∧ Pr w ch b u s0 ∧ w.length ≤ s0.rk.length + n ∧ ∀ s E R, Po w ch b u s0 s E R → Q .none (ssD L s)
theorem kVisit_mono (n : Nat) : MonoKM (kVisit n) := fun ks ds Q Q' f ⟨w, L, s0, u, b, ch, h1, h2, h3, h4, h5, h6, q⟩ => ⟨w, L, s0, u, b, ch, h1, h2, h3, h4, h5, h6, fun s E R p => f _ _ (q s E R p)⟩
theorem rk_le {w : List SD} {ch : List Int} {s : Ss} (g : Gi w ch s) : s.rk.length ≤ w.length := by
  have := sub_len g.rkn g.rks
  rwa [steps_len] at this
theorem kVisit0 : ∀ ks ds Q, ¬ kVisit 0 ks ds Q := fun ks ds Q ⟨w, L, s0, u, b, ch, _, _, _, _, p, h, _⟩ => by
  have := sub_len (T := u :: s0.rk) (S := stepsI w) (List.nodup_cons.mpr ⟨p.un, p.gi.rkn⟩) fun x hx => by
    rcases List.mem_cons.mp hx with q | q
    · exact q ▸ p.us
    · exact p.gi.rks x q
  rw [steps_len, List.length_cons] at this
  omega
theorem sub_lenA {α : Type} [DecidableEq α] : ∀ {T S : List α}, T.Nodup → (∀ x ∈ T, x ∈ S) → T.length ≤ S.length
  | [], _, _, _ => by simp
  | a :: T, S, nd, h => by
    have nd' := List.nodup_cons.mp nd
    have ha := h a List.mem_cons_self
    have ih := sub_lenA (T := T) (S := S.erase a) nd'.2 fun x hx => by
      have : x ≠ a := fun e => nd'.1 (e ▸ hx)
      exact (List.mem_erase_of_ne this).mpr (h x (List.mem_cons_of_mem _ hx))
    rw [List.length_erase_of_mem ha] at ih
    have := List.length_pos_of_mem ha
    simp
    omega
theorem sz_ge : ∀ {L : List (List Int)}, (∀ T ∈ L, 2 ≤ T.length) → L.length ≤ sz L
  | [], _ => by simp [sz]
  | T :: L, h => by
    have := sz_ge (L := L) fun U hU => h U (List.mem_cons_of_mem _ hU)
    have h2 := h T List.mem_cons_self
    have e : sz (T :: L) = (T.length - 1) + sz L := by simp [sz]
    rw [e, List.length_cons]
    omega
theorem fo_lenM {w : List SD} {fo : List (List Int)} (nd : fo.Nodup) (h : ∀ T ∈ fo, MaxF w (stepsI w) T) : fo.length ≤ w.length := by
  obtain ⟨L, h1, h2, h3⟩ := sz_all (w := w) (steps_asc w)
  have a := sub_lenA nd fun T hT => (h2 T).mpr (h T hT)
  have b := sz_ge (L := L) fun T hT => ((h2 T).mp hT).firm.two
  rw [steps_len] at h3
  omega
theorem fo_len {w : List SD} {ch : List Int} {s : Ss} (g : Gi w ch s) : s.fo.length ≤ w.length := fo_lenM g.fnd fun T hT => (g.max T).mpr (.inl hT)
end PP

set_option Elab.async false
set_option linter.all false
set_option maxRecDepth 100000
set_option maxHeartbeats 2000000
namespace PP
open PySem PySem.Spec PyProof.Rows L2
theorem set_found (L : List (List Int)) (s : Ss) (x y : D) : dset "found" x (dset "path" y (ssD L s)) = [(.str "near", .list (L.map lstI)), (.str "ranks", .dict (dL s.rk fun x => s.rk.idxOf x)), (.str "lows", .dict (dL s.rk s.lo)), (.str "path", y), (.str "found", x)] := rfl
theorem minI (i j : Nat) : (if ((j : Nat) : Int) < ((i : Nat) : Int) then ((j : Nat) : Int) else ((i : Nat) : Int)) = ((min i j : Nat) : Int) := by
  by_cases h : j < i
  · rw [if_pos (by omega), Nat.min_eq_right (by omega)]
  · rw [if_neg (by omega), Nat.min_eq_left (by omega)]
abbrev obD (a : Addr) (L : List (List Int)) (s : Ss) : D := .dict ((.none, .int ((a : Nat) : Int)) :: ssD L s)
theorem put_lows {a : Addr} {L : List (List Int)} {s : Ss} {u : Int} {n : Nat} {x : Int} {o2 o3 o4 : Option D} {k : En → Prop} (hu : u ∈ s.rk) (hl : s.rk.length < sizeLine) (hx : x = (n : Int)) (q : k [some (obD a L { s with lo := updL s.lo u n }), some (.int u), o2, o3, o4]) :
    putF1 0 "lows" (tV 1) (.int x) [some (obD a L s), some (.int u), o2, o3, o4] k := by
  subst hx
  refine And.intro (show (dL s.rk s.lo).length < sizeLine by rw [dL_len]; exact hl) ?_
  show k [some (.dict [(.none, .int ((a : Nat) : Int)), (.str "near", .list (L.map lstI)), (.str "ranks", .dict (dL s.rk fun x => s.rk.idxOf x)), (.str "lows", .dict (dPut (dL s.rk s.lo) (.inl u) (.int (n : Int)))), (.str "path", .list (s.pa.map PyData.int)), (.str "found", .list (s.fo.map tupI))]), some (.int u), o2, o3, o4]
  rw [dL_old hu]
  exact q
theorem eqv_opt {b : Option Int} {z : Int} : PyData.eqv (.int z) (optD b) = decide (b = some z) := by
  cases b with
  | none => rfl
  | some y =>
    show PyData.eqv (.int z) (.int y) = _
    rw [eqv_ii]
    by_cases h : z = y
    · subst h; simp
    · have : ¬ (some y = some z) := fun e => h (Option.some.inj e).symm
      rw [decide_eq_false this]
      simpa using h
theorem sh_opt (b : Option Int) : SeqAt.shaped (optD b) = true := by
  cases b with
  | none => rfl
  | some y => exact shaped_int y
theorem srt_plus (Q : List Int) (u : Int) : srtI (u :: Q) = plusV Q u := by
  refine srtI_eq ?_ (srtI_asc _)
  exact (srtI_perm _).trans (List.perm_append_comm (l₁ := [u]) (l₂ := Q))
section
variable {P : Program} {w : World} {K : PySem.W.Frag} {mg : Str → Option Value} {base : Heap}
theorem scSearch_visit : FnScope ["self", "step", "before", "rank", "other"] ["self", "step", "before"] (defScope sSearch_visit) := ⟨rfl, rfl, rfl, by decide +kernel, rfl, by decide +kernel, by decide +kernel⟩
theorem visit_step {n k : Nat} (m : Nm K mg) (G : SearchC K mg) (hk : 2 ≤ k) (cp : ClMk P w K mg base 1 "Search" "path_from" SearchF ["self", "step"] [.val] kPF ["found"]) (cv : ClM P w K mg base k "Search" "visit" SearchF ["self", "step", "before"] [.val, .val] (kVisit n)) :
    ClM P w K mg base (k + 1) "Search" "visit" SearchF ["self", "step", "before"] [.val, .val] (kVisit (n + 1)) := by
  have nd := scSearch_visit.nd
  have cf := G.cf
  obtain ⟨fv, fd, m1, m2, F⟩ := G.visit
  refine ⟨⟨fv, fd, m1, m2, fnM (N := ["self", "step", "before", "rank", "other"]) (M := [.ob "Search" SearchF, .val, .val, .val, .val]) (ms := [.val, .val]) F scSearch_visit rfl rfl rfl (by decide) rfl (fun cdv A outer s H E e hr hg => have hu := hr.units;
    (dss_cons (ds_st (i := 3) nd rfl (DE.se (de_lenD (by rfl) m.nlen (ar_cons (rf 0 cf) ar_nil))))
    (dss_cons (ds_fldPut2 0 cf hu (dv 3) (rv 1) (rv 1))
    (dss_cons (ds_fldApp 0 cf (dv 1))
    (dss_one (ds_for (L := [4]) PassesOwn.never (by rfl) (di_seq (de_item (rf 0 cf) (rv 1) (fun _ _ => rfl))) (fun _ => (gn (L := [4]) 4 nd)) (fun _ =>
      (dss_one (ds_if (dc_dnotIn hu (rv 4) (rf 0 cf))
        (dss_cons (ds_exprM (me_call 0 cv cf (hr.mono (Nat.le_refl _)) hg (ga_val (dv 4) (ga_val (dv 1) ga_nil))))
        (dss_cons (ds_if (dc_ge (DE.re (de_dget hu (rf 0 cf) (rv 4))) (rv 3)) (dss_one (ds_fldAppM 0 cf cp (hr.mono (by omega)) hg (by rfl) m.ntuple (by rfl) m.nsorted (dv 1) (ga_val (dv 4) ga_nil))) dss_nil)
        (dss_one (ds_fldPut 0 cf hu (de_min2 (by rfl) (by rfl) m.nmin (ar_cons (DE.re (de_dget hu (rf 0 cf) (rv 1))) (ar_cons (DE.re (de_dget hu (rf 0 cf) (rv 4))) ar_nil))) (rv 1)))))
        (dss_one (ds_if (dc_ne hu (rv 4) (rv 2)) (dss_one (ds_fldPut 0 cf hu (de_min2 (by rfl) (by rfl) m.nmin (ar_cons (DE.re (de_dget hu (rf 0 cf) (rv 1))) (ar_cons (DE.re (de_dget hu (rf 0 cf) (rv 4))) ar_nil))) (rv 1))) dss_nil))))))))))) fun a ks ds Q q => ?_⟩, kVisit_mono (n + 1)⟩
  obtain ⟨w0, L, s0, u, b, ch, rfl, rfl, hw, hL, pre, hn, q⟩ := q
  have big : 1000 ≤ sizeLine := by decide
  have wl := hw.2.1
  have rl : s0.rk.length < w0.length := Classical.byContradiction fun z => kVisit0 (ssD L s0) _ (fun _ _ => True) ⟨w0, L, s0, u, b, ch, rfl, rfl, hw, hL, pre, by omega, fun _ _ _ _ => trivial⟩
  have pl := pre.gi.pas.length_le
  refine And.intro (show (dL s0.rk fun x => s0.rk.idxOf x).length < sizeLine by rw [dL_len]; omega) ?_
  refine And.intro (show (dL s0.rk s0.lo).length < sizeLine by rw [dL_len]; omega) ?_
  refine And.intro (show (s0.pa.map PyData.int).length < sizeLine by rw [List.length_map]; omega) ?_
  obtain ⟨uN, rfl, huN⟩ := mem_rowI.mp pre.us
  have hlL : uN < (L.map lstI).length := by rw [List.length_map, hL.len]; exact huN
  refine kIx_l hlL ?_
  have hlN : uN < L.length := by rw [hL.len]; exact huN
  have el : (L.map lstI)[uN] = lstI L[uN] := List.getElem_map ..
  rw [el]
  have near := hL.mem uN L[uN] (List.getElem?_eq_getElem hlN)
  generalize L[uN] = l at near
  refine forD_step (fun rest ρ => ∃ (s : Ss) (E R pr ns : List Int) (o4 : Option D), rest = ns.map PyData.int ∧ l = pr ++ ns ∧ Mi w0 ch b (uN : Int) s0 s E R pr ∧ ρ = [some (obD a L s), some (.int (uN : Int)), some (optD b), some (.int ((s0.rk.length : Nat) : Int)), o4])
    ⟨_, [], [], [], l, none, rfl, rfl, mi_start pre, ?_⟩ ?_ ?_
  · have e1 : dPut (dL s0.rk fun x => s0.rk.idxOf x) (.inl (uN : Int)) (.int (((dL s0.rk fun x => s0.rk.idxOf x).length : Nat) : Int)) = dL (s0.rk ++ [(uN : Int)]) fun x => (s0.rk ++ [(uN : Int)]).idxOf x := by
      rw [dL_len, dL_new pre.un]
      refine dL_congr fun x hx => ?_
      rcases List.mem_append.mp hx with q | q
      · rw [updL_ne (fun e : x = (uN : Int) => pre.un (e ▸ q)), idx_pre q]
      · rw [List.mem_singleton.mp q, updL_same, idx_at pre.un]
    have e2 : dPut (dL s0.rk s0.lo) (.inl (uN : Int)) (.int (((dL s0.rk fun x => s0.rk.idxOf x).length : Nat) : Int)) = dL (s0.rk ++ [(uN : Int)]) (updL s0.lo uN s0.rk.length) := by
      rw [dL_len, dL_new pre.un]
    have e3 : s0.pa.map PyData.int ++ [.int (uN : Int)] = (s0.pa ++ [(uN : Int)]).map PyData.int := by rw [List.map_append]; rfl
    show [some (PyData.dict [(.none, .int ((a : Nat) : Int)), (.str "near", .list (L.map lstI)), (.str "ranks", .dict (dPut (dL s0.rk fun x => s0.rk.idxOf x) (.inl (uN : Int)) (.int (((dL s0.rk fun x => s0.rk.idxOf x).length : Nat) : Int)))), (.str "lows", .dict (dPut (dL s0.rk s0.lo) (.inl (uN : Int)) (.int (((dL s0.rk fun x => s0.rk.idxOf x).length : Nat) : Int)))), (.str "path", .list (s0.pa.map PyData.int ++ [.int (uN : Int)])), (.str "found", .list (s0.fo.map tupI))]), some (.int (uN : Int)), some (optD b), some (.int (((dL s0.rk fun x => s0.rk.idxOf x).length : Nat) : Int)), none] = _
    rw [e1, e2, e3, dL_len]
    rfl
  · rintro x rest ρ k2 ⟨s, E, R, pr, ns, o4, e1, e2, mi, rfl⟩ hk2
    cases ns with
    | nil => cases e1
    | cons z ns =>
    rw [List.map_cons] at e1
    obtain ⟨rfl, rfl⟩ := List.cons.inj e1
    have e2' : l = (pr ++ [z]) ++ ns := by rw [e2]; simp
    obtain ⟨zs, auz⟩ := (near z).mp (by rw [e2]; simp)
    have rks := rk_le mi.gi
    have ur : (uN : Int) ∈ s.rk := by rw [mi.rk]; simp
    show (if (!(dGet (dL s.rk fun x => s.rk.idxOf x) (.inl z)).isSome) = true then _ else _)
    rw [dL_is]
    by_cases hz : z ∈ s.rk
    · rw [decide_eq_true hz, if_neg (by simp)]
      refine And.intro ⟨shaped_int z, sh_opt b⟩ ?_
      show (if (!PyData.eqv (.int z) (optD b)) = true then _ else _)
      rw [eqv_opt]
      by_cases hb : b = some z
      · rw [decide_eq_true hb, if_neg (by simp)]
        exact hk2 _ ⟨s, E, R, pr ++ [z], ns, _, rfl, e2', mi_skip mi hz hb, rfl⟩
      · rw [decide_eq_false hb, if_pos (by simp)]
        show (match dGet (dL s.rk s.lo) (.inl (uN : Int)) with | some d => _ | none => False)
        rw [dL_at ur]
        show (match dGet (dL s.rk fun x => s.rk.idxOf x) (.inl z) with | some d => _ | none => False)
        rw [dL_at hz]
        refine put_lows ur (by omega) (minI _ _) ?_
        exact hk2 _ ⟨_, E, R, pr ++ [z], ns, _, rfl, e2', mi_back mi hz auz hb, rfl⟩
    · rw [decide_eq_false hz, if_pos (by simp)]
      have rlen : s0.rk.length + 1 ≤ s.rk.length := by rw [mi.rk, List.length_append, List.length_cons]; omega
      refine Exists.intro w0 (Exists.intro L (Exists.intro s (Exists.intro z (Exists.intro (some (uN : Int)) (Exists.intro ((uN : Int) :: ch) (And.intro rfl (And.intro rfl (And.intro hw (And.intro hL (And.intro (mi_pre mi hz zs auz) (And.intro (by omega) fun s' E' R' p => ?_)))))))))))
      have rks' := rk_le p.gi
      have zr' : z ∈ s'.rk := (po_new mi p (x := z) (by simp)).2.1
      have ur' : (uN : Int) ∈ s'.rk := by rw [p.rk]; exact List.mem_append_left _ ur
      show (match dGet (dL s'.rk s'.lo) (.inl z) with | some d => _ | none => False)
      rw [dL_at zr']
      refine And.intro trivial ?_
      show (if decide (((s0.rk.length : Nat) : Int) ≤ ((s'.lo z : Nat) : Int)) = true then _ else _)
      by_cases c : s0.rk.length ≤ s'.lo z
      · rw [if_pos (decide_eq_true (by omega))]
        refine Exists.intro s.pa (Exists.intro R' (Exists.intro z (And.intro (show some (PyData.list (s'.pa.map PyData.int)) = _ by rw [p.pa]) (And.intro (po_new mi p (x := z) (by simp)).2.2.1 (And.intro rfl ?_)))))
        have lR : (z :: R').length ≤ w0.length := by
          have := sub_len (po_nd mi p) fun x hx => (po_new mi p hx).2.2.2.2
          rwa [steps_len] at this
        refine Exists.intro (uN : Int) (Exists.intro (z :: R') (Exists.intro (s'.fo.map tupI) (And.intro rfl (And.intro rfl (And.intro (by omega) (And.intro rfl (And.intro (by rw [List.length_map]; have := fo_len p.gi; omega) ?_)))))))
        have efo : s'.fo.map tupI ++ [.tuple ((srtI ((uN : Int) :: z :: R')).map PyData.int)] = (s'.fo ++ [plusV (z :: R') (uN : Int)]).map tupI := by rw [List.map_append, srt_plus]; rfl
        rw [set_found, efo]
        show (match dGet (dL s'.rk s'.lo) (.inl (uN : Int)) with | some d => _ | none => False)
        rw [dL_at ur']
        show (match dGet (dL s'.rk s'.lo) (.inl z) with | some d => _ | none => False)
        rw [dL_at zr']
        refine put_lows (s := ⟨s'.rk, s.pa, s'.lo, s'.fo ++ [plusV (z :: R') (uN : Int)]⟩) ur' (by show s'.rk.length < sizeLine; omega) (minI _ _) ?_
        exact hk2 _ ⟨_, _, _, pr ++ [z], ns, _, rfl, e2', mi_pop mi p c auz, rfl⟩
      · rw [if_neg (by rw [decide_eq_true_eq]; omega)]
        show (match dGet (dL s'.rk s'.lo) (.inl (uN : Int)) with | some d => _ | none => False)
        rw [dL_at ur']
        show (match dGet (dL s'.rk s'.lo) (.inl z) with | some d => _ | none => False)
        rw [dL_at zr']
        refine put_lows (s := s') ur' (by omega) (minI _ _) ?_
        exact hk2 _ ⟨_, _, _, pr ++ [z], ns, _, rfl, e2', mi_keep mi p (by omega) auz, rfl⟩
  · rintro ρ ⟨s, E, R, pr, ns, o4, e1, e2, mi, rfl⟩
    have n0 : ns = [] := by
      cases ns with
      | nil => rfl
      | cons _ _ => cases e1
    subst n0
    rw [List.append_nil] at e2
    subst e2
    exact ⟨_, rfl, q s E R (mi_end mi fun z zs az => (near z).mpr ⟨zs, az⟩)⟩
end
end PP

set_option Elab.async false
set_option linter.all false
set_option maxRecDepth 100000
set_option maxHeartbeats 2000000
namespace PP
open PySem PySem.Spec PyProof.Rows L2
section
variable {P : Program} {w : World} {K : PySem.W.Frag} {mg : Str → Option Value} {base : Heap}
theorem visit_all (m : Nm K mg) (G : SearchC K mg) : ∀ n : Nat, ClM P w K mg base (n + 2) "Search" "visit" SearchF ["self", "step", "before"] [.val, .val] (kVisit n)
  | 0 => by
    obtain ⟨fv, fd, m1, m2, F⟩ := G.visit
    refine ⟨⟨fv, fd, m1, m2, ⟨fun vs H Q E z => ?_, fun A outer s H ar us vs Q E _ _ _ _ _ z => ?_⟩⟩, kVisit_mono 0⟩
    · obtain ⟨_, _, _, _, _, _, _, _, _, _, _, _, q⟩ := z
      exact absurd q (kVisit0 _ _ _)
    · obtain ⟨_, _, _, _, _, _, _, _, _, _, _, _, q⟩ := z
      exact absurd q (kVisit0 _ _ _)
  | n + 1 => visit_step m G (by omega) (path_from_ok G) (visit_all m G n)
abbrev sblocks : Stmt := topS 5
theorem scblocks : FnScope ["web", "search", "step"] ["web"] (defScope sblocks) := ⟨rfl, rfl, rfl, by decide +kernel, rfl, by decide +kernel, by decide +kernel⟩
theorem dblocks (m : Nm K mg) (G : SearchC K mg) (h : Hd K mg "blocks" sblocks ["web"]) (cnear : Cl P w K mg base 2 "near_steps" ["web"] [.val] kNear) : Cl P w K mg base 13 "blocks" ["web"] [.val] kBlocks := by
  have nd := scblocks.nd
  have cf := G.cf
  have cv := visit_all (P := P) (w := w) (base := base) m G 10
  have cs := ini_search (P := P) (w := w) (base := base) G cnear
  refine clD (N := ["web", "search", "step"]) (M := [.val, .ob "Search" SearchF, .val]) h scblocks kBlocks_mono rfl rfl rfl (by decide) ⟨_, fun f cdv A outer s H E e hr hg => have hu := hr.units;
    (dss_cons (ds_makeA (i := 1) cs (hr.mono (by decide)) hg (by rfl) (ga_val (dv 0) ga_nil) nd rfl (by first | exact .inl rfl | exact .inr rfl))
    (dss_cons (ds_for (L := [2]) PassesOwn.never (by rfl) (di_range1 (by rfl) m.nrange (DE.re (de_len (by rfl) m.nlen (ar_cons (rv 0) ar_nil)))) (fun _ => (gn (L := [2]) 2 nd)) (fun _ =>
      (dss_one (ds_if (dc_dnotIn hu (rv 2) (rf 1 cf)) (dss_one (ds_exprM (me_call 1 cv cf (hr.mono (by decide)) hg (ga_val (dv 2) (ga_val de_non ga_nil))))) dss_nil))))
    (dss_one (ds_ret (de_tuple (by rfl) m.ntuple (ar_cons (DE.re (FE.de (fe_sortR (by rfl) m.nsorted (ar_cons (rf 1 cf) ar_nil)))) ar_nil)))))), fun ds Q q => ?_⟩
  obtain ⟨w, rfl, hw, q⟩ := q
  have big : 1000 ≤ sizeLine := by decide
  have wl := hw.2.1
  refine Exists.intro w (And.intro rfl (And.intro (hw.up (by decide)) fun L hL a => ?_))
  have ewl : ((w.map stD).length : Int) = (w.length : Int) := by rw [List.length_map]
  refine And.intro (show RgI (((w.map stD).length : Nat) : Int) from ⟨by omega, by omega⟩) ?_
  refine forD_step (fun rest ρ => ∃ (s : Ss) (t : Nat) (o2 : Option D), rest = rgD (t : Int) (w.length : Int) ∧ t ≤ w.length ∧ Bl w s ∧ (∀ j : Nat, j < t → (j : Int) ∈ s.rk) ∧ ρ = [some (webD w), some (obD a L s), o2]) ⟨_, 0, none, by rw [ewl]; rfl, Nat.zero_le _, bl0 w, fun j h => absurd h (Nat.not_lt_zero _), rfl⟩ ?_ ?_
  · rintro x rest ρ k ⟨s, t, o2, e1, tl, bl, al, rfl⟩ hk
    have tl2 : t < w.length := by
      rcases Nat.lt_or_ge t w.length with h | h
      · exact h
      · have : rgD (t : Int) (w.length : Int) = [] := by
          unfold rgD
          have : ((w.length : Int) - (t : Int)).toNat = 0 := by omega
          rw [this]; rfl
        rw [this] at e1
        cases e1
    rw [rgD_cons (by omega)] at e1
    obtain ⟨rfl, rfl⟩ := List.cons.inj e1
    have us : (t : Int) ∈ stepsI w := step_mem tl2
    have er : rgD ((t : Int) + 1) (w.length : Int) = rgD ((t + 1 : Nat) : Int) (w.length : Int) := by congr 1
    rw [er] at hk
    show (if (!(dGet (dL s.rk fun x => s.rk.idxOf x) (.inl (t : Int))).isSome) = true then _ else _)
    rw [dL_is]
    by_cases hz : (t : Int) ∈ s.rk
    · rw [decide_eq_true hz, if_neg (by simp)]
      refine hk _ ⟨s, t + 1, _, rfl, tl2, bl, fun j hj => ?_, rfl⟩
      rcases Nat.lt_or_ge j t with h | h
      · exact al j h
      · have : j = t := by omega
        exact this ▸ hz
    · rw [decide_eq_false hz, if_pos (by simp)]
      refine Exists.intro w (Exists.intro L (Exists.intro s (Exists.intro (t : Int) (Exists.intro none (Exists.intro [] (And.intro rfl (And.intro rfl (And.intro hw (And.intro hL (And.intro (bl_pre bl hz us) (And.intro (by omega) fun s' E' R' p => ?_)))))))))))
      refine hk _ ⟨s', t + 1, _, rfl, tl2, bl_next bl hz us p, fun j hj => ?_, rfl⟩
      rw [p.rk]
      rcases Nat.lt_or_ge j t with h | h
      · exact List.mem_append_left _ (al j h)
      · have : j = t := by omega
        rw [this]
        simp
  · rintro ρ ⟨s, t, o2, e1, tl, bl, al, rfl⟩
    have tw : t = w.length := by
      rcases Nat.lt_or_ge t w.length with h | h
      · rw [rgD_cons (by omega)] at e1
        cases e1
      · omega
    have all : ∀ x ∈ stepsI w, x ∈ s.rk := fun x hx => by
      obtain ⟨j, rfl, hj⟩ := mem_rowI.mp hx
      exact al j (by omega)
    have hm := bl_end bl all
    refine Exists.intro s.fo (And.intro rfl (And.intro (fun T hT e => ?_) (q s.fo bl.gi.fnd hm (fo_len bl.gi))))
    have := ((hm T).mp hT).firm.two
    rw [e] at this
    simp at this
end
end PP

set_option Elab.async false
set_option linter.all false
set_option maxRecDepth 100000
set_option maxHeartbeats 2000000
namespace PP
open PySem PySem.Spec PyProof.Rows L2
def inP (B : List Int) : D → Bool
  | .int c => B.any (· == c)
  | _ => false
open Classical in
noncomputable def lowP (w : List SD) (R : List Int) : D → Bool
  | .int c => decide (∀ o ∈ R, o = c ∨ RI w c o)
  | _ => false
def awayP (l : List Int) (c : Nat) : D → Bool
  | .int o => (!(o == (c : Int))) && !(l.any (· == o))
  | _ => false
/-- the first one of a row with a property -/
theorem first_of {R : Int → Int → Prop} {q : Int → Prop} : ∀ {l : List Int}, l.Pairwise R → (∃ x ∈ l, q x) → ∃ c, q c ∧ ∀ o ∈ l, q o → o = c ∨ R c o
  | [], _, ⟨x, h, _⟩ => nomatch h
  | a :: l, hp, ⟨x, hx, qx⟩ => by
    obtain ⟨h1, h2⟩ := List.pairwise_cons.mp hp
    by_cases qa : q a
    · exact ⟨a, qa, fun o ho _ => by
        rcases List.mem_cons.mp ho with e | ho
        · exact .inl e
        · exact .inr (h1 o ho)⟩
    · have : x ∈ l := by
        rcases List.mem_cons.mp hx with e | hx
        · exact absurd (e ▸ qx) qa
        · exact hx
      obtain ⟨c, hc, h3⟩ := first_of h2 ⟨x, this, qx⟩
      exact ⟨c, hc, fun o ho qo => by
        rcases List.mem_cons.mp ho with e | ho
        · exact absurd (e ▸ qo) qa
        · exact h3 o ho qo⟩
section
variable {P : Program} {w : World} {K : PySem.W.Frag} {mg : Str → Option Value} {base : Heap}
abbrev s_law_row : Stmt := topS 23
theorem sc_law_row : FnScope ["joined", "block", "row", "turn", "rest", "some", "step", "other"] ["joined", "block"] (defScope s_law_row) := ⟨rfl, rfl, rfl, by decide +kernel, rfl, by decide +kernel, by decide +kernel⟩
theorem d_law_row (m : Nm K mg) (h : Hd K mg "_law_row" s_law_row ["joined", "block"])  : Cl P w K mg base 2 "_law_row" ["joined", "block"] [.val, .val] kLRow := by
  have nd := sc_law_row.nd
  refine clD (N := ["joined", "block", "row", "turn", "rest", "some", "step", "other"]) (M := [.val, .val, .val, .val, .val, .val, .val, .val]) h sc_law_row kLRow_mono rfl rfl rfl (by decide) ⟨_, fun f cdv A outer s H E e hr hg => have hu := hr.units; have hu8 := hr.un80;
    (dss_cons (ds_st (i := 2) nd rfl (DE.se (FE.de (fe_lst ae_nil))))
  (dss_cons (ds_for (L := [3]) PassesOwn.never (by rfl) (di_range1 (by rfl) m.nrange (DE.re (de_len (by rfl) m.nlen (ar_cons (rv 1) ar_nil)))) (fun _ => (gn (L := [3]) 3 nd)) (fun _ => (dss_cons (ds_st (i := 4) nd rfl (DE.se (FE.de (fe_comp (own := [("step", 6)]) (by rfl) nd (di_seq (dv 1)) (by exact blkOk_by (by kernel_rfl)) (fun _ _ _ _ _ => (gn (L := [6]) 6 nd)) (fun _ _ _ _ _ => (dts_one (dc_notIn (rv 6) (rv 2)))) (fun _ _ _ _ _ => (dv 6))))))
  (dss_cons (ds_setLc (i := 5) (own := [("step", 6)]) (by rfl) nd rfl rfl (sw_true rfl rfl rfl (by decide +kernel)) (di_seq (dv 4)) (by exact blkOk_by (by kernel_rfl)) (fun _ _ _ _ _ => (gn (L := [6]) 6 nd)) (fun _ _ _ _ _ => (dts_one (dc_eq hu (DE.re (FE.de (fe_comp (own := [("other", 7)]) (by rfl) nd (di_seq (dv 4)) (by exact blkOk_by (by kernel_rfl)) (fun _ _ _ _ _ => (gn (L := [7]) 7 nd)) (fun _ _ _ _ _ => (dts_one (DW.dc (dw_and (dc_ne hu (rv 7) (rv 6)) (dw_and1 (dc_notIn (rv 7) (DE.re (de_item (rv 0) (rv 6) (fun _ _ => rfl))))))))) (fun _ _ _ _ _ => de_int)))) (DE.re (FE.de (fe_lst ae_nil)))))) (fun _ _ _ _ _ => (dv 6)))
  (dss_one (ds_st (i := 2) nd rfl (DE.se (de_add (rv 2) (DE.re (de_slice (rv 5) dp_none (dp_some (DE.re de_int))))))))))))
  (dss_one (ds_ret (de_if (dc_eq hu (DE.re (de_len (by rfl) m.nlen (ar_cons (rv 2) ar_nil))) (DE.re (de_len (by rfl) m.nlen (ar_cons (rv 1) ar_nil)))) (de_tuple (by rfl) m.ntuple (ar_cons (rv 2) ar_nil)) (de_tup ae_nil)))))), fun ds Q q => ?_⟩
  classical
  obtain ⟨w, L, B, rfl, hw, ⟨hL1, hL2⟩, hB, q⟩ := q
  have big := line_big
  have hn := hw.2.1
  have lB := hB.len
  simp only [startD, List.length_cons, List.length_nil, List.map_cons, List.map_nil, List.replicate, List.cons_append, List.nil_append, Nat.sub_self, Nat.zero_add, Nat.add_sub_cancel, Nat.reduceAdd, Nat.reduceSub, gt, sv, tV, t2, tK, tCl, tConsA, tNilA, tDk, tSq, dSet, dPar, tIfD, tTst, tFz, tTupD, tLstD, tApp, dAppPop, tPut, tPop, tIdx, tSeqI, tYesD, tBor, dExt, wipeD, gN, gTupD, gConsD, gNilD, tComp, kLen, kInt, kAbs, kMax2, kTupl, kListF, kI, NoC, kEq, true_and, tSlF, tSl2, tAndD, tOrD, tAndE, tOrE, t1, kNeg, kIsN, id_eq]
  rw [List.length_map]
  refine ⟨by omega, ⟨by omega, by omega⟩, ?_⟩
  refine forD_step (fun rest ρ => ∃ (t : Nat) (rw : List Int) (o3 o4 o5 : Option D), ρ = [some (.list (L.map fun l => .list (l.map PyData.int))), some (tupI B), some (.list (rw.map PyData.int)), o3, o4, o5, none, none] ∧ rest.length + t = B.length ∧ rw.Nodup ∧ (∀ x ∈ rw, x ∈ B) ∧ rw.Pairwise (RI w) ∧ (∀ x ∈ rw, ∀ y ∈ B, y ∉ rw → RI w x y) ∧ ((∃ r, Chn w B r) → rw.length = t)) ⟨0, [], none, none, none, rfl, by rw [len_rgD]; omega, .nil, fun x h => (nomatch h), .nil, fun x h => (nomatch h), fun _ => rfl⟩ ?_ ?_
  · rintro x rest ρ kk ⟨t, rw, o3, o4, o5, rfl, hr, nd1, hs, hpw, hall, hlen⟩ hk
    rw [List.length_cons] at hr
    have lrw := sub_len nd1 hs
    simp only [startD, List.length_cons, List.length_nil, List.map_cons, List.map_nil, List.replicate, List.cons_append, List.nil_append, Nat.sub_self, Nat.zero_add, Nat.add_sub_cancel, Nat.reduceAdd, Nat.reduceSub, gt, sv, tV, t2, tK, tCl, tConsA, tNilA, tDk, tSq, dSet, dPar, tIfD, tTst, tFz, tTupD, tLstD, tApp, dAppPop, tPut, tPop, tIdx, tSeqI, tYesD, tBor, dExt, wipeD, gN, gTupD, gConsD, gNilD, tComp, kLen, kInt, kAbs, kMax2, kTupl, kListF, kI, NoC, kEq, true_and, tSlF, tSl2, tAndD, tOrD, tAndE, tOrE, t1, kNeg, kIsN, id_eq]
    refine ⟨by rw [List.length_map]; omega, compD_filt (notP rw) id (fun x hx k k' g1 g2 => ?_) ?_⟩
    · obtain ⟨c, hc, rfl⟩ := List.mem_map.mp hx
      simp only [startD, List.length_cons, List.length_nil, List.map_cons, List.map_nil, List.replicate, List.cons_append, List.nil_append, Nat.sub_self, Nat.zero_add, Nat.add_sub_cancel, Nat.reduceAdd, Nat.reduceSub, gt, sv, tV, t2, tK, tCl, tConsA, tNilA, tDk, tSq, dSet, dPar, tIfD, tTst, tFz, tTupD, tLstD, tApp, dAppPop, tPut, tPop, tIdx, tSeqI, tYesD, tBor, dExt, wipeD, gN, gTupD, gConsD, gNilD, tComp, kLen, kInt, kAbs, kMax2, kTupl, kListF, kI, NoC, kEq, true_and, tSlF, tSl2, tAndD, tOrD, tAndE, tOrE, t1, kNeg, kIsN, id_eq]
      refine ⟨⟨rfl, flat_ints _⟩, ?_⟩
      rw [memD_ints]
      cases hb : rw.any (· == c) with
      | true => exact g2 (by show (!(rw.any (· == c))) = false; rw [hb]; rfl)
      | false => exact g1 (by show (!(rw.any (· == c))) = true; rw [hb]; rfl)
    rw [List.nil_append, List.map_id]
    have e6 : (B.map PyData.int).filter (notP rw) = (B.filter fun x => !(rw.any (· == x))).map PyData.int := by
      rw [List.filter_map]
      rfl
    rw [e6]
    have mR : ∀ x, x ∈ B.filter (fun x => !(rw.any (· == x))) ↔ x ∈ B ∧ x ∉ rw := fun x => by
      rw [List.mem_filter, Bool.not_eq_true', ← Bool.not_eq_true, any_is]
    have lR := List.length_filter_le (fun x => !(rw.any (· == x))) B
    generalize B.filter (fun x => !(rw.any (· == x))) = R at *
    refine ⟨by rw [List.length_map]; omega, compD_filt (lowP w R) id (fun x hx k k' g1 g2 => ?_) ?_⟩
    · obtain ⟨c, hc, rfl⟩ := List.mem_map.mp hx
      have bc := hB.bd c ((mR c).mp hc).1
      obtain ⟨c, rfl, lc⟩ := nat_ix bc.1 bc.2
      have lcL : c < L.length := by omega
      have iff := hL2 c L[c] (List.getElem?_eq_getElem lcL)
      simp only [startD, List.length_cons, List.length_nil, List.map_cons, List.map_nil, List.replicate, List.cons_append, List.nil_append, Nat.sub_self, Nat.zero_add, Nat.add_sub_cancel, Nat.reduceAdd, Nat.reduceSub, gt, sv, tV, t2, tK, tCl, tConsA, tNilA, tDk, tSq, dSet, dPar, tIfD, tTst, tFz, tTupD, tLstD, tApp, dAppPop, tPut, tPop, tIdx, tSeqI, tYesD, tBor, dExt, wipeD, gN, gTupD, gConsD, gNilD, tComp, kLen, kInt, kAbs, kMax2, kTupl, kListF, kI, NoC, kEq, true_and, tSlF, tSl2, tAndD, tOrD, tAndE, tOrE, t1, kNeg, kIsN, id_eq]
      refine ⟨by rw [List.length_map]; omega, compD_filt (awayP L[c] c) (fun _ => .int 1) (fun x hx k k' g1 g2 => ?_) ?_⟩
      · obtain ⟨o, ho, rfl⟩ := List.mem_map.mp hx
        simp only [startD, List.length_cons, List.length_nil, List.map_cons, List.map_nil, List.replicate, List.cons_append, List.nil_append, Nat.sub_self, Nat.zero_add, Nat.add_sub_cancel, Nat.reduceAdd, Nat.reduceSub, gt, sv, tV, t2, tK, tCl, tConsA, tNilA, tDk, tSq, dSet, dPar, tIfD, tTst, tFz, tTupD, tLstD, tApp, dAppPop, tPut, tPop, tIdx, tSeqI, tYesD, tBor, dExt, wipeD, gN, gTupD, gConsD, gNilD, tComp, kLen, kInt, kAbs, kMax2, kTupl, kListF, kI, NoC, kEq, true_and, tSlF, tSl2, tAndD, tOrD, tAndE, tOrE, t1, kNeg, kIsN, id_eq]
        refine ⟨⟨shaped_int _, shaped_int _⟩, ?_⟩
        rw [eqv_ii]
        cases hb : o == (c : Int) with
        | true => exact g2 (by show ((!(o == (c : Int))) && !(L[c].any (· == o))) = false; rw [hb]; rfl)
        | false =>
          have il : c < (L.map fun l => PyData.list (l.map PyData.int)).length := by rw [List.length_map]; exact lcL
          refine kIx_l il ?_
          rw [List.getElem_map]
          refine ⟨⟨rfl, flat_ints _⟩, ?_⟩
          rw [memD_ints]
          cases hb2 : L[c].any (· == o) with
          | true => exact g2 (by show ((!(o == (c : Int))) && !(L[c].any (· == o))) = false; rw [hb, hb2]; rfl)
          | false => exact g1 (by show ((!(o == (c : Int))) && !(L[c].any (· == o))) = true; rw [hb, hb2]; rfl)
      · rw [List.nil_append]
        have e7 : ∀ X : List D, (X.map fun _ => PyData.int 1) = (List.replicate X.length (1 : Int)).map PyData.int := fun X => by
          rw [List.map_replicate, List.map_const']
        rw [e7]
        refine ⟨by omega, ⟨shaped_ints _, shaped_ints []⟩, ?_⟩
        rw [eqv_lnil]
        have e8 : ((List.replicate ((R.map PyData.int).filter (awayP L[c] c)).length (1 : Int)).map PyData.int).isEmpty = lowP w R (.int (c : Int)) := by
          show _ = decide (∀ o ∈ R, o = (c : Int) ∨ RI w (c : Int) o)
          rw [Bool.eq_iff_iff, List.isEmpty_iff, List.map_eq_nil_iff, List.replicate_eq_nil_iff, List.length_eq_zero_iff, List.filter_eq_nil_iff, decide_eq_true_eq]
          have one : ∀ o ∈ R, (¬ awayP L[c] c (.int o) = true) ↔ (o = (c : Int) ∨ RI w (c : Int) o) := fun o ho => by
            show (¬ ((!(o == (c : Int))) && !(L[c].any (· == o))) = true) ↔ _
            have bo := hB.bd o ((mR o).mp ho).1
            have e : (L[c].any (· == o)) = decide (RI w (c : Int) o) := by
              rw [any_eq, decide_eq_decide, iff]
              unfold RI
              rw [Int.toNat_natCast]
              constructor
              · rintro ⟨b, rfl, r⟩
                rw [Int.toNat_natCast]; exact r
              · intro r
                exact ⟨o.toNat, by omega, r⟩
            rw [e]
            by_cases h1 : o = (c : Int)
            · simp [h1]
            · by_cases h2 : RI w (c : Int) o
              · simp [h2]
              · simp [h1, h2]
          constructor
          · intro z o ho
            exact (one o ho).mp (z (.int o) (List.mem_map.mpr ⟨o, ho, rfl⟩))
          · intro z d hd
            obtain ⟨o, ho, rfl⟩ := List.mem_map.mp hd
            exact (one o ho).mpr (z o ho)
        rw [e8]
        cases hb : lowP w R (.int (c : Int)) with
        | true => exact g1 hb
        | false => exact g2 hb
    rw [List.nil_append, List.map_id]
    have e9 : (R.map PyData.int).filter (lowP w R) = (R.filter fun c => decide (∀ o ∈ R, o = c ∨ RI w c o)).map PyData.int := by
      rw [List.filter_map]
      rfl
    rw [e9]
    have mS : ∀ c, c ∈ R.filter (fun c => decide (∀ o ∈ R, o = c ∨ RI w c o)) ↔ c ∈ R ∧ ∀ o ∈ R, o = c ∨ RI w c o := fun c => by
      rw [List.mem_filter, decide_eq_true_eq]
    have lS := List.length_filter_le (fun c => decide (∀ o ∈ R, o = c ∨ RI w c o)) R
    generalize R.filter (fun c => decide (∀ o ∈ R, o = c ∨ RI w c o)) = S at *
    have ec : cutD (S.map PyData.int) none (some 1) = (S.take 1).map PyData.int := by
      cases S with
      | nil => rfl
      | cons a t => exact (cut_to (xs := (a :: t).map PyData.int) (k := 1) (by simp)).trans List.map_take.symm
    simp only [ec]
    have e10 : rw.map PyData.int ++ (S.take 1).map PyData.int = (rw ++ S.take 1).map PyData.int := by rw [List.map_append]
    show _ ≤ _ ∧ _
    rw [e10]
    refine ⟨by simp only [List.length_map, List.length_take]; omega, ?_⟩
    cases S with
    | nil =>
      refine hk _ ⟨t + 1, rw ++ [], _, _, _, rfl, by omega, by simpa using nd1, by simpa using hs, by simpa using hpw, by simpa using hall, fun ex => ?_⟩
      exfalso
      have el := hlen ex
      obtain ⟨r, hp, hr2⟩ := ex
      have hpl := hp.length_eq
      obtain ⟨c, hc⟩ : ∃ c, c ∈ R := by
        refine Classical.byContradiction fun no => ?_
        have : B.length ≤ rw.length := sub_len (asc_nodup hB.asc) fun x hx => Classical.byContradiction fun nx => no ⟨x, (mR x).mpr ⟨hx, nx⟩⟩
        omega
      obtain ⟨c, h1, h2⟩ := first_of hr2 (q := fun x => x ∈ R) ⟨c, hp.mem_iff.mpr ((mR c).mp hc).1, hc⟩
      have : c ∈ ([] : List Int) := (mS c).mpr ⟨h1, fun o ho => h2 o (hp.mem_iff.mpr ((mR o).mp ho).1) ho⟩
      cases this
    | cons c t2 =>
      obtain ⟨c1, c2⟩ := (mS c).mp (by simp)
      obtain ⟨cB, cn⟩ := (mR c).mp c1
      refine hk _ ⟨t + 1, rw ++ [c], _, _, _, rfl, by omega, ?_, fun x hx => ?_, ?_, fun x hx y hy ny => ?_, fun ex => by rw [List.length_append, List.length_singleton, hlen ex]⟩
      · rw [List.nodup_append]
        exact ⟨nd1, by simp, fun a ha b hb e => by simp at hb; subst hb; exact cn (e ▸ ha)⟩
      · rcases List.mem_append.mp hx with h | h
        · exact hs x h
        · have h : x = c := by simpa using h
          exact h ▸ cB
      · exact List.pairwise_append.mpr ⟨hpw, by simp, fun a ha b hb => by simp at hb; subst hb; exact hall a ha b cB cn⟩
      · have ny1 : y ∉ rw := fun z => ny (by simp [z])
        have ny2 : y ≠ c := fun z => ny (by simp [z])
        rcases List.mem_append.mp hx with h | h
        · exact hall x h y hy ny1
        · have h : x = c := by simpa using h
          subst h
          exact (c2 y ((mR y).mpr ⟨hy, ny1⟩)).resolve_left ny2
  · rintro ρ ⟨t, rw, o3, o4, o5, rfl, hr, nd1, hs, hpw, hall, hlen⟩
    have et : t = B.length := by simpa using hr
    subst et
    simp only [startD, List.length_cons, List.length_nil, List.map_cons, List.map_nil, List.replicate, List.cons_append, List.nil_append, Nat.sub_self, Nat.zero_add, Nat.add_sub_cancel, Nat.reduceAdd, Nat.reduceSub, gt, sv, tV, t2, tK, tCl, tConsA, tNilA, tDk, tSq, dSet, dPar, tIfD, tTst, tFz, tTupD, tLstD, tApp, dAppPop, tPut, tPop, tIdx, tSeqI, tYesD, tBor, dExt, wipeD, gN, gTupD, gConsD, gNilD, tComp, kLen, kInt, kAbs, kMax2, kTupl, kListF, kI, NoC, kEq, true_and, tSlF, tSl2, tAndD, tOrD, tAndE, tOrE, t1, kNeg, kIsN, id_eq]
    simp only [List.length_map]
    refine ⟨⟨shaped_int _, shaped_int _⟩, ?_⟩
    rw [eqv_ii]
    have fullP : rw.length = B.length → Chn w B rw := fun e => by
      refine ⟨(List.perm_ext_iff_of_nodup nd1 (asc_nodup hB.asc)).mpr fun x => ⟨hs x, fun hx => ?_⟩, hpw⟩
      refine Classical.byContradiction fun nx => ?_
      have := sub_len (T := x :: rw) (S := B) (List.nodup_cons.mpr ⟨nx, nd1⟩) fun y hy => by
        rcases List.mem_cons.mp hy with z | z
        · exact z ▸ hx
        · exact hs y z
      simp at this
      omega
    by_cases e : rw.length = B.length
    · rw [if_pos (by rw [beq_iff_eq]; omega)]
      exact q (some rw) ⟨fun r er => by cases er; exact fullP e, fun er => (nomatch er)⟩
    · rw [if_neg (by rw [beq_iff_eq]; omega)]
      exact ⟨by omega, q none ⟨fun r er => (nomatch er), fun _ ex => e (hlen ex)⟩⟩
/-- the row of a block -/
def kRowN : KF := fun ds Q => ∃ (w : List SD) (B : List Int), ds = [webD w, tupI B] ∧ Wb 10 w ∧ MaxF w (stepsI w) B ∧ ∀ o : Option (List Int), RowOf w B o → Q (rowDat o)
theorem kRowN_mono : MonoC kRowN := fun ds Q Q' f ⟨w, B, h1, h2, h3, q⟩ => ⟨w, B, h1, h2, h3, fun o h => f _ (q o h)⟩
def kRowA : KF := fun ds Q => ∃ (w : List SD) (l B : List Int), ds = [webD w, .list (l.map PyData.int), tupI B] ∧ Wb 10 w ∧ Fst w l ∧ MaxF w (stepsI w) B ∧ ∀ o : Option (List Int), RowOf w B o → Q (rowDat o)
theorem kRowA_mono : MonoC kRowA := fun ds Q Q' f ⟨w, l, B, h1, h2, h3, h4, q⟩ => ⟨w, l, B, h1, h2, h3, h4, fun o h => f _ (q o h)⟩
abbrev srow_among : Stmt := topS 8
theorem scrow_among : FnScope ["web", "steps", "block", "row", "one", "other", "step"] ["web", "steps", "block"] (defScope srow_among) := ⟨rfl, rfl, rfl, by decide +kernel, rfl, by decide +kernel, by decide +kernel⟩
theorem drow_among (m : Nm K mg) (h : Hd K mg "row_among" srow_among ["web", "steps", "block"]) : Cl P w K mg base 2 "row_among" ["web", "steps", "block"] [.val, .val, .val] kRowA := by
  have nd := scrow_among.nd
  refine clD (N := ["web", "steps", "block", "row", "one", "other", "step"]) (M := [.val, .val, .val, .val, .val, .val, .val]) h scrow_among kRowA_mono rfl rfl rfl (by decide) ⟨_, fun f cdv A outer s H E e hr hg => have hu := hr.units; have hu8 := hr.un80;
    (dss_cons (ds_st (i := 3) nd rfl (DE.se (de_tuple (by rfl) m.ntuple (ar_cons (DE.re (FE.de (fe_comp (own := [("step", 6)]) (by rfl) nd (di_seq (dv 1)) (by exact blkOk_by (by kernel_rfl)) (fun _ _ _ _ _ => (gn (L := [6]) 6 nd)) (fun _ _ _ _ _ => (dts_one (dc_in (rv 6) (rv 2)))) (fun _ _ _ _ _ => (dv 6))))) ar_nil))))
  (dss_cons (ds_for (L := [4, 5]) PassesOwn.never (by rfl) (di_zip (by rfl) m.nzip (dv 3) (de_slice (rv 3) (dp_some (DE.re de_int)) dp_none)) (fun _ => (gt_tup (n := 2) (by rfl) (gts_cons (gn (L := [4, 5]) 4 nd) (gts_cons (gn (L := [4, 5]) 5 nd) gts_nil)))) (fun _ => (dss_one (ds_if (dc_notIn (rv 4) (DE.re (de_item (DE.re (de_item (rv 0) (rv 5) (fun _ _ => rfl))) (DE.re de_int) (fun _ _ => rfl)))) (dss_one (ds_ret de_non)) dss_nil))))
  (dss_one (ds_ret (dv 3))))), fun ds Q q => ?_⟩
  classical
  obtain ⟨w, l, B, rfl, hw, hl, mB, q⟩ := q
  have hB : InS w B := ⟨mB.asc, fun x hx => (InS.all w).bd x (mB.sub x hx)⟩
  have big := line_big
  have hn := hw.2.1
  simp only [startD, List.length_cons, List.length_nil, List.map_cons, List.map_nil, List.replicate, List.cons_append, List.nil_append, Nat.sub_self, Nat.zero_add, Nat.add_sub_cancel, Nat.reduceAdd, Nat.reduceSub, gt, sv, tV, t2, tK, tCl, tConsA, tNilA, tDk, tSq, dSet, dPar, tIfD, tTst, tFz, tTupD, tLstD, tApp, dAppPop, tPut, tPop, tIdx, tSeqI, tYesD, tBor, dExt, wipeD, gN, gTupD, gConsD, gNilD, tComp, kLen, kInt, kAbs, kMax2, kTupl, kListF, kI, NoC, kEq, true_and, tSlF, tSl2, tAndD, tOrD, tAndE, tOrE, t1, kNeg, kIsN, id_eq]
  have ll : l.length ≤ w.length := pig _ _ hl.nd fun x hx => by
    obtain ⟨b, rfl, hb⟩ := (hl.mem x).mp hx
    omega
  refine ⟨by rw [List.length_map]; omega, compD_filt (inP B) id (fun x hx k k' g1 g2 => ?_) ?_⟩
  · obtain ⟨c, hc, rfl⟩ := List.mem_map.mp hx
    simp only [startD, List.length_cons, List.length_nil, List.map_cons, List.map_nil, List.replicate, List.cons_append, List.nil_append, Nat.sub_self, Nat.zero_add, Nat.add_sub_cancel, Nat.reduceAdd, Nat.reduceSub, gt, sv, tV, t2, tK, tCl, tConsA, tNilA, tDk, tSq, dSet, dPar, tIfD, tTst, tFz, tTupD, tLstD, tApp, dAppPop, tPut, tPop, tIdx, tSeqI, tYesD, tBor, dExt, wipeD, gN, gTupD, gConsD, gNilD, tComp, kLen, kInt, kAbs, kMax2, kTupl, kListF, kI, NoC, kEq, true_and, tSlF, tSl2, tAndD, tOrD, tAndE, tOrE, t1, kNeg, kIsN, id_eq]
    refine ⟨⟨rfl, flat_ints _⟩, ?_⟩
    rw [memD_ints]
    cases hb : B.any (· == c) with
    | true => exact g1 hb
    | false => exact g2 hb
  rw [List.nil_append, List.map_id]
  have e6 : (l.map PyData.int).filter (inP B) = (l.filter fun c => B.any (· == c)).map PyData.int := by
    rw [List.filter_map]
    rfl
  rw [e6]
  have hp := row_perm hl hB
  have hch := row_chain hl hB
  generalize l.filter (fun c => B.any (· == c)) = r at *
  have rB : ∀ x ∈ r, 0 ≤ x ∧ x < w.length := fun x hx => hB.bd x (hp.mem_iff.mp hx)
  simp only [tZpI]
  simp only [startD, List.length_cons, List.length_nil, List.map_cons, List.map_nil, List.replicate, List.cons_append, List.nil_append, Nat.sub_self, Nat.zero_add, Nat.add_sub_cancel, Nat.reduceAdd, Nat.reduceSub, gt, sv, tV, t2, tK, tCl, tConsA, tNilA, tDk, tSq, dSet, dPar, tIfD, tTst, tFz, tTupD, tLstD, tApp, dAppPop, tPut, tPop, tIdx, tSeqI, tYesD, tBor, dExt, wipeD, gN, gTupD, gConsD, gNilD, tComp, kLen, kInt, kAbs, kMax2, kTupl, kListF, kI, NoC, kEq, true_and, tSlF, tSl2, tAndD, tOrD, tAndE, tOrE, t1, kNeg, kIsN, id_eq]
  have ec : cutD (r.map PyData.int) (some 1) none = (r.map PyData.int).drop 1 := by
    cases r with
    | nil => rfl
    | cons a t => exact cut_from (xs := (a :: t).map PyData.int) (k := 1) (by simp)
  simp only [ec]
  refine forD_step (fun rest ρ => ∃ (k : Nat) (o3 o4 : Option D), ρ = [some (webD w), some (.list (l.map PyData.int)), some (tupI B), some (tupI r), o3, o4, none] ∧ rest = (zpD (r.map PyData.int) ((r.map PyData.int).drop 1)).drop k ∧ ∀ i, ∀ h : i + 1 < r.length, i < k → r[i]'(by omega) ∈ inpD w r[i + 1]) ⟨0, none, none, rfl, rfl, fun i h z => absurd z (by omega)⟩ ?_ ?_
  · rintro x rest ρ kk ⟨k, o3, o4, rfl, er, hk⟩ hkk
    have lt : k < (zpD (r.map PyData.int) ((r.map PyData.int).drop 1)).length := by
      have := congrArg List.length er
      rw [List.length_drop, List.length_cons] at this
      omega
    rw [List.drop_eq_getElem_cons lt] at er
    obtain ⟨rfl, rfl⟩ := List.cons.inj er
    obtain ⟨u, v, h1, h2, ex⟩ := zpD_get (List.getElem?_eq_getElem lt)
    rw [List.getElem?_drop, List.getElem?_map] at h2
    rw [List.getElem?_map] at h1
    rw [zpD_len, List.length_drop, List.length_map] at lt
    have lk : k + 1 < r.length := by omega
    rw [List.getElem?_eq_getElem (show k < r.length by omega)] at h1
    rw [List.getElem?_eq_getElem (show 1 + k < r.length by omega)] at h2
    have e1 : u = .int r[k] := (Option.some.inj h1).symm
    have e2 : v = .int r[k + 1] := by
      have := (Option.some.inj h2).symm
      rw [this]
      congr 2
      omega
    have b2 := rB r[k + 1] (List.getElem_mem _)
    obtain ⟨b, eb, lb⟩ := nat_ix b2.1 b2.2
    rw [ex, e1, e2, eb]
    simp only [startD, List.length_cons, List.length_nil, List.map_cons, List.map_nil, List.replicate, List.cons_append, List.nil_append, Nat.sub_self, Nat.zero_add, Nat.add_sub_cancel, Nat.reduceAdd, Nat.reduceSub, gt, sv, tV, t2, tK, tCl, tConsA, tNilA, tDk, tSq, dSet, dPar, tIfD, tTst, tFz, tTupD, tLstD, tApp, dAppPop, tPut, tPop, tIdx, tSeqI, tYesD, tBor, dExt, wipeD, gN, gTupD, gConsD, gNilD, tComp, kLen, kInt, kAbs, kMax2, kTupl, kListF, kI, NoC, kEq, true_and, tSlF, tSl2, tAndD, tOrD, tAndE, tOrE, t1, kNeg, kIsN, id_eq]
    refine kIx_t (xs := w.map stD) (by simpa using lb) ?_
    rw [List.getElem_map]
    refine kIx_t (xs := [w[b].1, tupI w[b].2]) (j := 1) (show 1 < 2 by decide) ?_
    refine And.intro ⟨rfl, flat_ints _⟩ ?_
    show (if (!memD (.int r[k]) (w[b].2.map PyData.int)) = true then _ else _)
    have eI : inpD w r[k + 1] = w[b].2 := by rw [eb]; exact inp_at lb
    rw [memD_ints]
    cases hd : w[b].2.any (· == r[k]) with
    | false =>
      rw [if_pos (by simp)]
      refine q none ⟨fun r' e => (nomatch e), fun _ ex' => ?_⟩
      have := next_tied hw mB (hch ex') k lk
      rw [eI] at this
      have z : w[b].2.any (· == r[k]) = true := List.any_eq_true.mpr ⟨_, this, by simp⟩
      rw [hd] at z
      cases z
    | true =>
      rw [if_neg (by simp)]
      refine hkk _ ⟨k + 1, _, _, rfl, rfl, fun i h z => ?_⟩
      by_cases e : i = k
      · subst e
        rw [eI]
        obtain ⟨y, hy, ey⟩ := List.any_eq_true.mp hd
        have : y = r[i] := by simpa using ey
        exact this ▸ hy
      · exact hk i h (by omega)
  · rintro ρ ⟨k, o3, o4, rfl, er, hk⟩
    have le : (zpD (r.map PyData.int) ((r.map PyData.int).drop 1)).length ≤ k := by
      have := congrArg List.length er
      rw [List.length_drop, List.length_nil] at this
      omega
    rw [zpD_len, List.length_drop, List.length_map] at le
    refine q (some r) ⟨fun r' e => ?_, fun e => (nomatch e)⟩
    cases e
    refine ⟨hp, pw_of_next (R := RI w) (fun x y z => RI.tr) fun i h => ?_⟩
    have ti := hk i h (by omega)
    have b1 := rB (r[i]'(by omega)) (List.getElem_mem _)
    have b2 := rB r[i + 1] (List.getElem_mem _)
    obtain ⟨a, ea, la⟩ := nat_ix b1.1 b1.2
    obtain ⟨b, eb, lb⟩ := nat_ix b2.1 b2.2
    rw [ea, eb, inp_at lb] at ti
    unfold RI
    rw [ea, eb, Int.toNat_natCast, Int.toNat_natCast]
    exact .one ⟨w[b], List.getElem?_eq_getElem lb, ti⟩
abbrev srow_of : Stmt := topS 7
theorem scrow_of : FnScope ["web", "block"] ["web", "block"] (defScope srow_of) := ⟨rfl, rfl, rfl, by decide +kernel, rfl, by decide +kernel, by decide +kernel⟩
theorem drow_of (m : Nm K mg) (h : Hd K mg "row_of" srow_of ["web", "block"]) (crow_among : Cl P w K mg base 2 "row_among" ["web", "steps", "block"] [.val, .val, .val] kRowA) (cgivers_first : Cl P w K mg base 3 "givers_first" ["web"] [.val] kFirst) : Cl P w K mg base 4 "row_of" ["web", "block"] [.val, .val] kRowN := by
  have nd := scrow_of.nd
  refine clD (N := ["web", "block"]) (M := [.val, .val]) h scrow_of kRowN_mono rfl rfl rfl (by decide) ⟨_, fun f cdv A outer s H E e hr hg =>
    (dss_one (ds_ret (cl crow_among (hr.mono (by decide)) hg (ga_val (dv 0) (ga_val (cl cgivers_first (hr.mono (by decide)) hg (ga_val (dv 0) ga_nil)) (ga_val (dv 1) ga_nil)))))), fun ds Q q => ?_⟩
  obtain ⟨w, B, rfl, hw, mB, q⟩ := q
  refine Exists.intro w (And.intro rfl (And.intro (hw.up (by decide)) fun l hl => ?_))
  exact Exists.intro w (Exists.intro l (Exists.intro B (And.intro rfl (And.intro hw (And.intro hl (And.intro mB q))))))
end
end PP

set_option Elab.async false
set_option linter.all false
set_option maxRecDepth 100000
set_option maxHeartbeats 2000000
namespace PP
open PySem PySem.Spec PyProof.Rows L2
/-- the law's promise -/
def spLaw (K : PySem.W.Frag) : Sp := fun vs H Q _ => ∃ (a : Addr) (ns : List Int), vs = [.ref a] ∧ SqL K H a (ns.map V.int) ∧ ns.length ≤ 63 ∧ ∀ H', Q (.bl true) H'
structure DkCl (P : Program) (w : World) (K : PySem.W.Frag) (mg : Str → Option Value) (base : Heap) : Prop where
  ex : ∃ f fd, mg "_law_deck" = some (.ref f) ∧ PySem.W.keepIn K (.ref f) = true ∧ Binds K fd ["script"] [] ∧ FnG P w K mg base CX0 1 f fd ["script"] (spDeck K)
theorem deck_bs {p b c : Addr} {H : Hp} (h : DeckIn p b c H) : Bs (deckRg p b c) (fun _ => none) H := ⟨fun x o e => (by cases e), h, fun x m => rfl⟩
theorem sw_none : Sw 100000 64 (PyData.none : D) := by
  refine ⟨rfl, by decide +kernel, by decide +kernel, by decide +kernel, rfl⟩
theorem sw_due {w : List SD} {T : List Int} {o : Option (List Int)} (hw : Wb 10 w) (hS : InS w T) (h : RowOf w T o) : Sw 100000 64 (rowDat o) := by
  cases o with
  | none => exact sw_none
  | some r =>
    have hp := (h.yes r rfl).1
    have hl : r.length ≤ 10 := by rw [hp.length_eq]; exact Nat.le_trans hS.len hw.2.1
    exact (sw_ints (ns := r) fun i hi => by have := hS.bd i (hp.mem_iff.mp hi); have := hw.2.1; omega).mono (by omega) (by decide)
theorem lay_rows : ∀ ms : List (List Int), PyData.canLayAll0 (ms.map rowD) = true ∧ PyData.depthAll (ms.map rowD) ≤ 2
  | [] => ⟨rfl, by simp [PyData.depthAll]⟩
  | n :: ms => by
    have h1 := lay_ints n
    have h2 := lay_rows ms
    refine ⟨?_, ?_⟩
    · simp [PyData.canLayAll0, rowD, PyData.canLay0, h1.1]
      exact h2.1
    · simp only [List.map_cons, PyData.depthAll, rowD, PyData.depth]
      exact Nat.max_le.mpr ⟨by omega, h2.2⟩
theorem shaped_pairs {ms : List (List Int)} : SeqAt.shaped (.list (ms.map rowD)) = true := by
  have h := lay_rows ms
  simp only [SeqAt.shaped, PyData.canLay0, PyData.depth, h.1, Bool.true_and, decide_eq_true_eq]
  have := h.2
  refine decide_eq_true ?_
  omega
theorem cut_one {xs : List D} (h : 1 ≤ xs.length) : cutD xs (some 1) none = xs.tail := by
  unfold cutD
  rw [HT.sIx_none, show HT.sIx xs.length 0 (some 1) = min 1 xs.length from HT.sIx_nat _ _ 1, Nat.min_eq_left h, List.drop_one, List.take_of_length_le (by simp)]
theorem zip_tail {r : List Int} {d : D} (h : d ∈ zpD (r.map PyData.int) (r.map PyData.int).tail) : ∃ (i : Nat) (hi : i + 1 < r.length), d = rowD [r[i], r[i + 1]] := by
  obtain ⟨i, hi⟩ := List.mem_iff_getElem?.mp h
  obtain ⟨x, y, h1, h2, rfl⟩ := zpD_get hi
  rw [List.getElem?_tail] at h2
  rw [List.getElem?_map] at h1 h2
  cases q2 : r[i + 1]? with
  | none => rw [q2] at h2; cases h2
  | some b =>
    obtain ⟨l2, e2⟩ := List.getElem?_eq_some_iff.mp q2
    rw [q2] at h2
    rw [List.getElem?_eq_getElem (by omega : i < r.length)] at h1
    cases h1
    cases h2
    exact ⟨i, l2, by rw [e2]; rfl⟩
theorem eqv_due {r : List Int} (h : r ≠ []) : PyData.eqv (tupI r) (.tuple []) = false := by
  cases r with
  | nil => exact absurd rfl h
  | cons a r => simp [tupI, PyData.eqv, PyData.eqvAll]
theorem eqv_ints2 : ∀ ns : List Int, PyData.eqvAll (ns.map PyData.int) (ns.map PyData.int) = true
  | [] => by simp [PyData.eqvAll]
  | n :: ns => by
    have := eqv_ints2 ns
    simp [PyData.eqvAll, PyData.eqv, this]
theorem eqv_row (n : List Int) : PyData.eqv (rowD n) (rowD n) = true := by
  simp only [rowD, PyData.eqv]
  exact eqv_ints2 n
section
variable {P : Program} {w : World} {K : PySem.W.Frag} {mg : Str → Option Value} {base : Heap}
abbrev slaw : Stmt := topS 24
theorem sclaw : FnScope ["script", "deck", "turn", "web", "joined", "pairs", "block", "due", "found", "pair"] ["script"] (defScope slaw) := ⟨rfl, rfl, rfl, by decide +kernel, rfl, by decide +kernel, by decide +kernel⟩
abbrev Nlaw : List Str := ["script", "deck", "turn", "web", "joined", "pairs", "block", "due", "found", "pair"]
abbrev Mlaw : List Md := [.val, .dk, .val, .val, .val, .val, .val, .val, .val, .val]
theorem dlaw {f : Addr} {fd : FuncData} (m : Nm K mg) (F : Fun K "law" "law" slaw f fd) (dk : DkCl P w K mg base) (c_law_web : Cl P w K mg base 6 "_law_web" ["deck", "most"] [.dk, .val] kWeb) (cblocks : Cl P w K mg base 13 "blocks" ["web"] [.val] kBlocks) (c_law_joined : Cl P w K mg base 3 "_law_joined" ["web"] [.val] kJoin) (c_law_pairs : Cl P w K mg base 3 "_law_pairs" ["web"] [.val] kPairs) (c_law_row : Cl P w K mg base 2 "_law_row" ["joined", "block"] [.val, .val] kLRow) (crow_of : Cl P w K mg base 4 "row_of" ["web", "block"] [.val, .val] kRowN) : FnG P w K mg base CX0 40 f fd ["script"] (spLaw K) := by
  obtain ⟨fk, fkd, k1, k2, k3, k4⟩ := dk.ex
  have nd := sclaw.nd
  refine fnG_of F sclaw (fun vs H Q E ⟨a, ns, e, _⟩ => by rw [e]; rfl) fun cdv A outer s H vs Q E hr hg hsp => ?_
  obtain ⟨a, ns, rfl, hS, hl, q⟩ := hsp
  have hu := hr.units
  have hu8 := hr.un80
  suffices D : ∃ t : DTS, DSs (cxOf CX0 P w K mg base Nlaw "law" (defScope slaw) f cdv A outer s H E).nox ⟨Rg.no, fun _ => none, H, fun _ => none⟩ Mlaw (defBody slaw).tail t ∧ t { nx := fun _ => False, rt := fun d => d = .bool true } (none :: some .none :: List.replicate 8 none) by
    obtain ⟨t, D, sp⟩ := D
    refine ⟨_, (pss_cons (ps_set (i := 1) nd rfl (by first | exact .inl rfl | exact .inr rfl) (pe_callG k4 (hr.mono (by decide)) hg (by rfl) k1 k2 k3 pass0 (pa_cons (pv 0) pa_nil))) D.ps).nox, ?_⟩
    refine ⟨V.ref a, rfl, a, ns, rfl, hS, hl, fun H' p b2 c2 sm hp hb hc dk => ?_⟩
    have bs := deck_bs dk
    refine ⟨deckRg p b2 c2, fun _ => none, none :: some .none :: List.replicate 8 none, _, ⟨bs, ⟨fun _ _ h => h, bs.sub, fun _ _ h => .inl h, fun x o e _ => sm x o e, trivial⟩, .inr ⟨rfl, fun x hx => ?_⟩, rfl, fun i d h => ?_, fun i j v w q hij h1 h2 h3 h4 h5 h6 => ?_, .refl _, trivial⟩, sp, ?_⟩
    · rcases hx with rfl | rfl | rfl
      · exact hp
      · exact hb
      · exact hc
    · match i, h with
      | 1, h => exact ⟨V.ref p, rfl, rfl, _, _, _, rfl⟩
      | 0, h => cases h
      | i + 2, h =>
        exfalso
        have : gt (List.replicate 8 none) i = some d := h
        rw [gt_eq, List.getElem?_replicate] at this
        split at this <;> cases this
    · match i, h1, h5 with
      | 1, _, h5 => exact h5
      | 0, h1, _ => exact absurd rfl h1
      | i + 2, h1, _ =>
        refine absurd ?_ h1
        show gt (List.replicate 8 none) i = none
        rw [gt_eq, List.getElem?_replicate]
        split <;> rfl
    · exact ⟨fun _ _ _ _ _ _ z => z.elim, fun F' H' d v t' r q' => by
        have e : d = .bool true := q'
        subst e
        have e : v = .bl true := r
        subst e
        exact q H', fun _ _ _ _ _ _ z => z.elim, fun _ _ _ _ _ _ z => z.elim, fun _ _ _ _ _ _ _ _ _ z => z.elim⟩
  refine ⟨_, (dss_cons (ds_for (L := [2]) PassesOwn.never (by rfl) (di_range1 (by rfl) m.nrange (DE.re de_int)) (fun _ => (gn (L := [2]) 2 nd)) (fun _ => (dss_cons (ds_st (i := 3) nd rfl (DE.se (cl c_law_web (hr.mono (by decide)) hg (gdk 1 (ga_val de_int ga_nil)))))
  (dss_cons (ds_asg (de_tup (ae_cons (cl c_law_joined (hr.mono (by decide)) hg (ga_val (dv 3) ga_nil)) (ae_cons (cl c_law_pairs (hr.mono (by decide)) hg (ga_val (dv 3) ga_nil)) ae_nil))) (gt_tup (n := 2) (by rfl) (gts_cons (gn (L := [4, 5]) 4 nd) (gts_cons (gn (L := [4, 5]) 5 nd) gts_nil))))
  (dss_one (ds_for (L := [6]) PassesOwn.never (by rfl) (di_seq (cl cblocks (hr.mono (by decide)) hg (ga_val (dv 3) ga_nil))) (fun _ => (gn (L := [6]) 6 nd)) (fun _ => (dss_cons (ds_par (i := 7) (j := 8) (by rfl) nd rfl rfl (DE.se (cl c_law_row (hr.mono (by decide)) hg (ga_val (dv 4) (ga_val (dv 6) ga_nil)))) (DE.se (cl crow_of (hr.mono (by decide)) hg (ga_val (dv 3) (ga_val (dv 6) ga_nil)))))
  (dss_cons (ds_if (dc_ne hu (DE.re (de_repr hg hu8 (by rfl) m.nrepr (ar_cons (rv 8) ar_nil))) (DE.re (de_repr hg hu8 (by rfl) m.nrepr (ar_cons (DE.re (de_if (dc_ne hu (rv 7) (DE.re (de_tup ae_nil))) (dv 7) de_non)) ar_nil)))) (dss_one (ds_ret de_bl)) dss_nil)
  (dss_one (ds_if (DW.dc (dw_and (dc_notN (rv 8)) (dw_and1 (dc_ne hu (DE.re (FE.de (fe_comp (own := [("pair", 9)]) (by rfl) nd (di_zipN (by rfl) m.nzip (dv 8) (de_slice (rv 8) (dp_some (DE.re de_int)) dp_none)) (by exact blkOk_by (by kernel_rfl)) (fun _ _ _ _ _ => (gn (L := [9]) 9 nd)) (fun _ _ _ _ _ => (dts_one (dc_notInD (by first | omega | exact Nat.lt_of_le_of_lt (Nat.add_le_add_left (by decide : 65 ≤ 80) _) hu8) (rv 9) (rv 5)))) (fun _ _ _ _ _ => de_int)))) (DE.re (FE.de (fe_lst ae_nil))))))) (dss_one (ds_ret de_bl)) dss_nil)))))))))))
  (dss_one (ds_ret de_bl))), ?_⟩
  simp only [startD, List.length_cons, List.length_nil, List.map_cons, List.map_nil, List.replicate, List.cons_append, List.nil_append, Nat.sub_self, Nat.zero_add, Nat.add_sub_cancel, Nat.reduceAdd, Nat.reduceSub, gt, sv, tV, t2, tK, tCl, tConsA, tNilA, tDk, tSq, dSet, dPar, tIfD, tTst, tFz, tTupD, tLstD, tApp, dAppPop, tPut, tPop, tIdx, tSeqI, tYesD, tBor, dExt, wipeD, gN, gTupD, gConsD, gNilD, tComp, kLen, kInt, kAbs, kMax2, kTupl, kListF, kI, NoC, kEq, true_and, tSlF, tSl2, tAndD, tOrD, tAndE, tOrE, t1, kNeg, kIsN, id_eq]
  refine ⟨⟨by decide, by decide⟩, ?_⟩
  refine forD_step (fun _ ρ => ∃ o2 o3 o4 o5 o6 o7 o8 o9 : Option D, ρ = [none, some .none, o2, o3, o4, o5, o6, o7, o8, o9]) ⟨none, none, none, none, none, none, none, none, rfl⟩ ?_ ?_
  · rintro x rest ρ k ⟨o2, o3, o4, o5, o6, o7, o8, o9, rfl⟩ hk
    have big := line_big
    simp only [startD, List.length_cons, List.length_nil, List.map_cons, List.map_nil, List.replicate, List.cons_append, List.nil_append, Nat.sub_self, Nat.zero_add, Nat.add_sub_cancel, Nat.reduceAdd, Nat.reduceSub, gt, sv, tV, t2, tK, tCl, tConsA, tNilA, tDk, tSq, dSet, dPar, tIfD, tTst, tFz, tTupD, tLstD, tApp, dAppPop, tPut, tPop, tIdx, tSeqI, tYesD, tBor, dExt, wipeD, gN, gTupD, gConsD, gNilD, tComp, kLen, kInt, kAbs, kMax2, kTupl, kListF, kI, NoC, kEq, true_and, tSlF, tSl2, tAndD, tOrD, tAndE, tOrE, t1, kNeg, kIsN, id_eq]
    refine ⟨10, rfl, by decide, by decide, fun w hw => ?_⟩
    refine ⟨w, rfl, hw, fun LJ hl hj => ?_⟩
    refine ⟨w, rfl, hw, fun ms hms h1 h2 => ?_⟩
    refine ⟨by omega, ?_⟩
    refine ⟨w, rfl, hw, fun L nd hm hlen => ?_⟩
    refine forD_step (fun xs ρ => (∀ d ∈ xs, ∃ T, d = tupI T ∧ MaxF w (stepsI w) T) ∧ ∃ o6 o7 o8 o9 : Option D, ρ = [none, some .none, some x, some (webD w), some (.list (LJ.map fun l => .list (l.map PyData.int))), some (.list (ms.map rowD)), o6, o7, o8, o9]) ⟨fun d hd => ?_, _, _, _, _, rfl⟩ ?_ ?_
    · obtain ⟨T, hT, rfl⟩ := List.mem_map.mp hd
      exact ⟨T, rfl, (hm T).mp ((srtR_perm L).mem_iff.mp hT)⟩
    · rintro d rest2 ρ k2 ⟨hx, p6, p7, p8, p9, rfl⟩ hk2
      obtain ⟨T, rfl, mT⟩ := hx d List.mem_cons_self
      have hx2 := fun d hd => hx d (List.mem_cons_of_mem _ hd)
      have hS : InS w T := ⟨mT.asc, fun x hx => (InS.all w).bd x (mT.sub x hx)⟩
      simp only [startD, List.length_cons, List.length_nil, List.map_cons, List.map_nil, List.replicate, List.cons_append, List.nil_append, Nat.sub_self, Nat.zero_add, Nat.add_sub_cancel, Nat.reduceAdd, Nat.reduceSub, gt, sv, tV, t2, tK, tCl, tConsA, tNilA, tDk, tSq, dSet, dPar, tIfD, tTst, tFz, tTupD, tLstD, tApp, dAppPop, tPut, tPop, tIdx, tSeqI, tYesD, tBor, dExt, wipeD, gN, gTupD, gConsD, gNilD, tComp, kLen, kInt, kAbs, kMax2, kTupl, kListF, kI, NoC, kEq, true_and, tSlF, tSl2, tAndD, tOrD, tAndE, tOrE, t1, kNeg, kIsN, id_eq]
      refine ⟨w, LJ, T, rfl, hw, ⟨hl, hj⟩, hS, fun o ho => ⟨w, T, rfl, hw, mT, fun o' ho' => ?_⟩⟩
      have eo := ho.uniq hw ho'
      subst eo
      have sw := sw_due hw hS ho
      refine rp sw ?_
      cases o with
      | none =>
        refine ⟨Nat.zero_le _, ⟨shaped_tupI [], shaped_tupI []⟩, ?_⟩
        have e0 : PyData.eqv (dueDat none) (.tuple []) = true := by simp [dueDat, PyData.eqv, PyData.eqvAll]
        rw [e0]
        simp only [Bool.not_true, Bool.false_eq_true, if_false]
        refine rp sw_none ⟨sh2 sw_none, ?_⟩
        rw [show (rowDat none).shown = (PyData.none : D).shown from rfl, eqv_str]
        exact hk2 _ ⟨hx2, _, _, _, _, rfl⟩
      | some r =>
        have hr := ho.yes r rfl
        have l2 : 2 ≤ r.length := by rw [hr.1.length_eq]; exact mT.firm.two
        have l10 : r.length ≤ 10 := by rw [hr.1.length_eq]; exact Nat.le_trans hS.len hw.2.1
        have ne : r ≠ [] := fun e => by rw [e] at l2; simp at l2
        have e0 : PyData.eqv (dueDat (some r)) (.tuple []) = false := eqv_due ne
        refine ⟨Nat.zero_le _, ⟨shaped_tupI r, shaped_tupI []⟩, ?_⟩
        rw [e0]
        simp only [Bool.not_false, if_true]
        refine rp sw ⟨sh2 sw, ?_⟩
        rw [show (rowDat (some r)).shown = (dueDat (some r)).shown from rfl, eqv_str]
        simp only [Bool.not_true, Bool.false_eq_true, if_false]
        rw [if_pos (by rfl)]
        show (fun ds => _) (zpD (r.map PyData.int) (cutD (r.map PyData.int) (some 1) none))
        have ez := cut_one (xs := r.map PyData.int) (by rw [List.length_map]; omega)
        refine ⟨by rw [zpD_len, List.length_map]; omega, ?_⟩
        refine compD_filt (fun _ => false) id (fun d hd kk kk' _ h => ?_) ?_
        · rw [ez] at hd
          obtain ⟨i, hi, rfl⟩ := zip_tail hd
          have hin := next_tied hw mT hr i hi
          have hb := hS.bd _ (hr.1.mem_iff.mp (List.getElem_mem hi))
          have hmm := h2 _ _ hb.1 hb.2 hin
          have ha : (ms.map rowD).any (fun z => PyData.eqv z (rowD [r[i], r[i + 1]])) = true := List.any_eq_true.mpr ⟨_, List.mem_map.mpr ⟨_, hmm, rfl⟩, eqv_row _⟩
          simp only [startD, List.length_cons, List.length_nil, List.map_cons, List.map_nil, List.replicate, List.cons_append, List.nil_append, Nat.sub_self, Nat.zero_add, Nat.add_sub_cancel, Nat.reduceAdd, Nat.reduceSub, gt, sv, tV, t2, tK, tCl, tConsA, tNilA, tDk, tSq, dSet, dPar, tIfD, tTst, tFz, tTupD, tLstD, tApp, dAppPop, tPut, tPop, tIdx, tSeqI, tYesD, tBor, dExt, wipeD, gN, gTupD, gConsD, gNilD, tComp, kLen, kInt, kAbs, kMax2, kTupl, kListF, kI, NoC, kEq, true_and, tSlF, tSl2, tAndD, tOrD, tAndE, tOrE, t1, kNeg, kIsN, id_eq]
          refine ⟨⟨shaped_tupI [r[i], r[i + 1]], shaped_pairs⟩, ?_⟩
          rw [ha]
          exact h rfl
        · generalize hX : ([] ++ (List.filter (fun _ => false) (zpD (r.map PyData.int) (cutD (r.map PyData.int) (some 1) none))).map id : List D) = X
          have eX : X = [] := by rw [← hX]; simp
          subst eX
          refine ⟨Nat.zero_le _, ⟨shaped_ints [], shaped_ints []⟩, ?_⟩
          have en : PyData.eqv (.list []) (.list []) = true := by simp [PyData.eqv, PyData.eqvAll]
          rw [en]
          exact hk2 _ ⟨hx2, _, _, _, _, rfl⟩
    · rintro ρ ⟨_, p6, p7, p8, p9, rfl⟩
      exact hk _ ⟨_, _, _, _, _, _, _, _, rfl⟩
  · rintro ρ ⟨o2, o3, o4, o5, o6, o7, o8, o9, rfl⟩
    trivial
end
end PP

set_option Elab.async false
set_option linter.all false
set_option maxRecDepth 100000
set_option maxHeartbeats 2000000
namespace PP
open PySem PySem.Spec PyProof.Rows L2
/-- what the call of a law comes to -/
def Good (t : Shared) (r : Result) (t' : Shared) : Prop := r = .ok (.ret (.bool true)) ∧ OldK t.heap t'.heap ∧ t'.os = t.os ∧ AllBare t'.gens
section
variable {P : Program} {w : World} {K : PySem.W.Frag} {mg mb : Str → Option Value} {k : Nat} {fa a : Addr} {fd : FuncData} {x : Str} {sp : Sp} {t : Shared} {vs : List Value} {ns : List Int}
/-- at one tracked heap -/
theorem runH (kin : K.In t.heap) (nsM : t.heap.Ns mainGlobals mg) (nsB : t.heap.Ns builtinsNs mb) (bb : ∀ y : Str, y ≠ "__name__" → mb y = bootBuiltins y)
    (lim : t.heap.NoLimit) (gen : t.gens = #[]) (obj : t.heap.get? a = some { cls := .type "list", data := .seq vs.toArray })
    (room : Room k callerA) (F : ∀ base : Heap, K.In base → base.Ns mainGlobals mg → FnG P w K mg base CX0 k fa fd [x] sp)
    (bind : ∀ (s : Shared) (u : Value), BindsTo s fd ⟨[u], []⟩ [(x, u)]) (H : Hp) (only : Only H) (hok : HOk P w H t.heap)
    (ow : ∀ b, H b ≠ none → b = a) (nk : H a ≠ none → K.lookup a = none) (hs : sp [.ref a] H (fun v _ => v = .bl true) fun _ _ _ => False) :
    codeAny (model P w) callerA (.call (.ref fa) ⟨[.ref a], []⟩) (Good t) t := by
  have kb : K.In (hidT t.heap H) := fun b o e => by
    by_cases c : H b = none
    · exact hidT_get (kin b o e) c
    · have z := ow b c
      subst z
      rw [nk c] at e
      cases e
  have nm : ∀ {b : Addr} {m : Str → Option Value}, t.heap.Ns b m → (hidT t.heap H).Ns b m := fun {b m} ⟨o, es, ep, e, d, r⟩ => by
    refine ⟨o, es, ep, hidT_get e ?_, d, r⟩
    by_cases c : H b = none
    · exact c
    · have z := ow b c
      subst z
      rw [obj] at e
      cases e
      exact nomatch (show Data.seq vs.toArray _ = Data.dict es ep from d)
  obtain ⟨mc, l1, l2⟩ := lim
  have md : Mod K mg (hidT t.heap H) := { kin := kb, glob := nm nsM, blt := ⟨mb, nm nsB, bb⟩, nolimit := ⟨mc, nm l1, l2⟩ }
  have env : Env0 P w K mg (hidT t.heap H) callerA [] t H := by
    refine ⟨rfl, md, ?_, ?_, trivial, ?_, hok, .of_eq gen⟩
    · exact fun b o e => of_hidT e
    · exact Nat.le_of_eq (hidT_size _ _)
    · intro b m
      cases (show b ∈ ([] : List Addr) from m)
  have run := (F _ kb (nm nsM)).go callerA [] t H ⟨[.ref a], []⟩ [.ref a] [.ref a] _ _ room rfl env (bind t (.ref a)) (.cons rfl .nil) hs
  refine codeAny_mono run ?_
  rintro (e | f) t' r
  · exact (show False from r).elim
  cases f <;> first | exact (show False from r).elim | skip
  obtain ⟨v, H', os, bare, un, hok', rv, q⟩ := r
  have q : v = .bl true := q
  subst q
  obtain rfl := (show _ = Value.bool true from rv)
  refine ⟨rfl, OldK.of_keep fun b o e => ?_, os, bare⟩
  by_cases c : H b = none
  · refine un.keep b o e c ?_ (by simp)
    intro z
    cases (show b ∈ ([] : List Addr) from z)
  · rcases only b with z | ⟨ob, xs, z⟩
    · exact absurd z c
    · have e1 := (hok b _ z).1
      have e2 := (hok' b _ (un.frzs b ob _ z)).1
      rw [e] at e1
      cases e1
      exact e2
theorem runL (kin : K.In t.heap) (nsM : t.heap.Ns mainGlobals mg) (nsB : t.heap.Ns builtinsNs mb) (bb : ∀ y : Str, y ≠ "__name__" → mb y = bootBuiltins y)
    (lim : t.heap.NoLimit) (gen : t.gens = #[]) (obj : t.heap.get? a = some { cls := .type "list", data := .seq vs.toArray }) (hi : IntsAre vs ns) (hl : ns.length ≤ sizeLine)
    (room : Room k callerA) (F : ∀ base : Heap, K.In base → base.Ns mainGlobals mg → FnG P w K mg base CX0 k fa fd [x] sp)
    (bind : ∀ (s : Shared) (u : Value), BindsTo s fd ⟨[u], []⟩ [(x, u)])
    (hs : ∀ H : Hp, Only H → SqL K H a (ns.map V.int) → sp [.ref a] H (fun v _ => v = .bl true) fun _ _ _ => False) :
    codeAny (model P w) callerA (.call (.ref fa) ⟨[.ref a], []⟩) (Good t) t := by
  have rv := vals_ints hi
  have n1 := hi.length
  cases q : K.lookup a with
  | some o =>
    have e := kin a o q
    rw [obj] at e
    cases e
    have on : Only fun _ => none := fun _ => .inl rfl
    refine runH kin nsM nsB bb lim gen obj room F bind _ on (fun b u z => by cases z) (fun b z => absurd rfl z) (fun z => absurd rfl z) (hs _ on (.inr ⟨_, vs.toArray, _, q, rfl, rfl, rfl, ?_, by simpa using rv⟩))
    rw [List.size_toArray, n1]
    exact hl
  | none =>
    have at_ : ∀ b (u : HO), (fun b => if b = a then some (HO.frz { cls := .type "list", data := .seq vs.toArray } (.lst (ns.map V.int))) else none) b = some u → b = a ∧ u = .frz { cls := .type "list", data := .seq vs.toArray } (.lst (ns.map V.int)) := by
      intro b u z
      by_cases c : b = a
      · exact ⟨c, (Option.some.inj ((if_pos c).symm.trans z)).symm⟩
      · cases (if_neg c).symm.trans z
    have on : Only fun b => if b = a then some (HO.frz { cls := .type "list", data := .seq vs.toArray } (.lst (ns.map V.int))) else none := by
      intro b
      by_cases c : b = a
      · exact .inr ⟨_, _, if_pos c⟩
      · exact .inl (if_neg c)
    refine runH kin nsM nsB bb lim gen obj room F bind _ on (fun b u z => ?_) (fun b z => ?_) (fun _ => q) (hs _ on (.inl (.inr ⟨_, if_pos rfl⟩)))
    · obtain ⟨rfl, rfl⟩ := at_ b u z
      exact ⟨obj, by rw [List.length_map]; exact hl, vs, _, rv, obj⟩
    · by_cases c : b = a
      · exact c
      · exact absurd (if_neg c) z
end
/-- the goal that the head leaves, from the promise of the law's def -/
theorem walkG {l : PySem.W.OpenLaw} {n k : Nat} {q : Program} {loose : List Str} {XP : (Str → Option Value) → Heap → Prop} {YP : World → Heap → Prop} {d : DefRec} {K : Params → PySem.W.Frag} {sp : World → Sp} {x : Str}
    (hn : l.most = some n) (hn2 : n ≤ sizeLine) (hdf : d.params.defaults = []) (room : Room k callerA) (hY : ∀ (w : World) (h : Heap), YP w h → (K w.params).In h)
    (F : ∀ (w : World) (mg : Str → Option Value) (fa : Addr) (h : Heap), (K w.params).In h → h.Ns mainGlobals mg → mg d.name = some (.ref fa) →
      ∃ fd : FuncData, (∀ (s : Shared) (u : Value), BindsTo s fd ⟨[u], []⟩ [(x, u)]) ∧ ∀ base : Heap, (K w.params).In base → base.Ns mainGlobals mg → FnG l.prog w (K w.params) mg base CX0 k fa fd [x] (sp w))
    (hs : ∀ (w : World) (H : Hp) (a : Addr) (ns : List Int), ns.length ≤ n → Only H → SqL (K w.params) H a (ns.map V.int) → sp w [.ref a] H (fun v _ => v = .bl true) fun _ _ _ => False) :
    PySem.W.WalkO q loose XP YP l.row.toRowW d [] (fun f vs => PySem.call f vs) := by
  refine Att.attach_call hn hdf fun w s₀ t mg mb fa o pm cd doc a vs ns G Y _ _ _ hm hobj hints hlen hg => ?_
  have kin := hY w _ Y
  obtain ⟨fd, hb, hF⟩ := F w mg fa _ kin G.T.g hm
  exact runL kin G.T.g G.T.b G.T.builtins G.T.nolimit hg hobj hints (Nat.le_trans hlen hn2) room hF hb fun H hO hS => hs w H a ns hlen hO hS
/-- a def, from what the top has written -/
theorem hd_mk {K : PySem.W.Frag} {h : Heap} {mg : Str → Option Value} {x : Str} {st : Stmt} {ps : List Str} {f : Addr} {od an : Option Addr} {sl : Array (Option Value)} {oc kV dc pm cd ct : Value} (X : K.In h) (G : h.Ns mainGlobals mg)
    (a : PySem.W.nsIn K mainGlobals x = some (some (.ref f))) (l : K.lookup f = some ⟨oc, od, .func (PySem.W.fnOf x x (defArgs st) (defBody st) (defScope st) .none kV dc pm an cd ct), sl⟩) (c : PySem.W.codeIn K cd x = true) (k : PySem.W.keepIn K (.ref f) = true)
    (b : ∀ (kV doc pm : Value) (an : Option Addr) (cdv ct : Value) (us : List Value), us.length = ps.length → bindArgs (PySem.W.fnOf x x (defArgs st) (defBody st) (defScope st) .none kV doc pm an cdv ct) ⟨us, []⟩ = pure (ps.zip us)) : Hd K mg x st ps :=
  ⟨f, _, fun_mk l c k, (fun_mk l c k).binds b, PySem.W.mg_of X G a⟩
end PP

set_option Elab.async false
set_option linter.all false
set_option maxRecDepth 100000
set_option maxHeartbeats 2000000
namespace PP
open PySem PySem.Spec PyProof.Rows L2
section
variable {P : Program} {w : World} {K : PySem.W.Frag} {mg : Str → Option Value} {base : Heap}
/-- all defs stand -/
structure Tops (K : PySem.W.Frag) (mg : Str → Option Value) : Prop where
  t_law_deck : Hd K mg "_law_deck" s_law_deck ["script"]
  t_law_draw : Hd K mg "_law_draw" s_law_draw ["deck", "bound"]
  t_law_pick : Hd K mg "_law_pick" s_law_pick ["deck", "items"]
  t_law_mixed : Hd K mg "_law_mixed" s_law_mixed ["deck", "items"]
  t_law_kind : Hd K mg "_law_kind" s_law_kind ["deck", "many"]
  t_law_step : Hd K mg "_law_step" s_law_step ["deck", "at", "near"]
  t_law_grown : Hd K mg "_law_grown" s_law_grown ["deck", "most"]
  t_law_numbered : Hd K mg "_law_numbered" s_law_numbered ["web", "row"]
  t_law_rowed : Hd K mg "_law_rowed" s_law_rowed ["deck", "most"]
  t_law_web : Hd K mg "_law_web" s_law_web ["deck", "most"]
  t_law_ties : Hd K mg "_law_ties" s_law_ties ["web"]
  t_law_joined : Hd K mg "_law_joined" s_law_joined ["web"]
  t_law_pairs : Hd K mg "_law_pairs" s_law_pairs ["web"]
  tgivers_first : Hd K mg "givers_first" sgivers_first ["web"]
  t_law_row : Hd K mg "_law_row" s_law_row ["joined", "block"]
  tblocks : Hd K mg "blocks" sblocks ["web"]
  trow_of : Hd K mg "row_of" srow_of ["web", "block"]
  tnear_steps : Hd K mg "near_steps" snear_steps ["web"]
  ttakers_of : Hd K mg "takers_of" stakers_of ["web"]
  trow_among : Hd K mg "row_among" srow_among ["web", "steps", "block"]
theorem allK {f : Addr} {fd : FuncData} (m : Nm K mg) (Gs : SearchC K mg) (T : Tops K mg) (F : Fun K "law" "law" slaw f fd) : FnG P w K mg base CX0 40 f fd ["script"] (spLaw K) := by
  have dk : DkCl P w K mg base := by
    obtain ⟨f, fd, F, b, hm⟩ := T.t_law_deck.ex
    exact ⟨⟨f, fd, hm, F.kp, b, .of (ok_law_deck F m.nabs m.nlen)⟩⟩
  have c_law_draw : Cl P w K mg base 1 "_law_draw" ["deck", "bound"] [.dk, .val] kDraw := by
    obtain ⟨f, fd, F, b, hm⟩ := T.t_law_draw.ex
    exact ⟨⟨f, fd, hm, F.kp, b, .of (ok_law_draw F m.nint m.nlen)⟩, kDraw_mono⟩
  have c_law_pick := d_law_pick (P := P) (w := w) (base := base) m T.t_law_pick c_law_draw
  have c_law_mixed := d_law_mixed (P := P) (w := w) (base := base) m T.t_law_mixed c_law_draw
  have c_law_kind := d_law_kind (P := P) (w := w) (base := base) m T.t_law_kind c_law_pick
  have c_law_step := d_law_step (P := P) (w := w) (base := base) m T.t_law_step c_law_pick c_law_kind
  have c_law_grown := d_law_grown (P := P) (w := w) (base := base) m T.t_law_grown c_law_pick c_law_step c_law_draw
  have c_law_numbered := d_law_numbered (P := P) (w := w) (base := base) m T.t_law_numbered 
  have c_law_rowed := d_law_rowed (P := P) (w := w) (base := base) m T.t_law_rowed c_law_pick c_law_draw c_law_kind c_law_mixed
  have c_law_web := d_law_web (P := P) (w := w) (base := base) m T.t_law_web c_law_grown c_law_draw c_law_rowed c_law_numbered c_law_mixed
  have c_law_ties := d_law_ties (P := P) (w := w) (base := base) m T.t_law_ties 
  have c_law_joined := d_law_joined (P := P) (w := w) (base := base) m T.t_law_joined c_law_ties
  have c_law_pairs := d_law_pairs (P := P) (w := w) (base := base) m T.t_law_pairs c_law_ties
  have ctakers_of := dtakers_of (P := P) (w := w) (base := base) m T.ttakers_of
  have cgivers_first := dgivers_first (P := P) (w := w) (base := base) m T.tgivers_first ctakers_of
  have c_law_row := d_law_row (P := P) (w := w) (base := base) m T.t_law_row 
  have cnear_steps := dnear_steps (P := P) (w := w) (base := base) m T.tnear_steps
  have cblocks := dblocks (P := P) (w := w) (base := base) m Gs T.tblocks cnear_steps
  have crow_among := drow_among (P := P) (w := w) (base := base) m T.trow_among
  have crow_of := drow_of (P := P) (w := w) (base := base) m T.trow_of crow_among cgivers_first
  exact dlaw m F dk c_law_web cblocks c_law_joined c_law_pairs c_law_row crow_of
theorem law_mk {h : Heap} {fa f2 : Addr} {od an : Option Addr} {sl : Array (Option Value)} {oc kV dc pm cd ct : Value} (X : K.In h) (G : h.Ns mainGlobals mg) (hfa : mg "law" = some (.ref fa))
    (a : PySem.W.nsIn K mainGlobals "law" = some (some (.ref f2))) (l : K.lookup f2 = some ⟨oc, od, .func (PySem.W.fnOf "law" "law" (defArgs slaw) (defBody slaw) (defScope slaw) .none kV dc pm an cd ct), sl⟩) (c : PySem.W.codeIn K cd "law" = true) (k : PySem.W.keepIn K (.ref f2) = true)
    (m : Nm K mg) (Gs : SearchC K mg) (T : Tops K mg) : ∃ fd : FuncData, (∀ (s : Shared) (v : Value), BindsTo s fd ⟨[v], []⟩ [("script", v)]) ∧ ∀ base : Heap, K.In base → base.Ns mainGlobals mg → FnG P w K mg base CX0 40 fa fd ["script"] (spLaw K) := by
  have e := hfa.symm.trans (PySem.W.mg_of X G a)
  cases e
  have F := fun_mk (st := slaw) l c k
  exact ⟨PySem.W.fnOf "law" "law" (defArgs slaw) (defBody slaw) (defScope slaw) .none kV dc pm an cd ct, fun s v => .of_eq rfl, fun base _ _ => allK m Gs T F⟩
end
end PP
theorem PP.nm_mk {K : PySem.W.Frag} {h : PySem.Heap} {mg : PySem.Str → Option PySem.Value} (X : K.In h) (G : h.Ns PySem.mainGlobals mg)
    (z0 : PySem.W.nsIn K PySem.mainGlobals "len" = some none)
    (z1 : PySem.W.nsIn K PySem.mainGlobals "int" = some none)
    (z2 : PySem.W.nsIn K PySem.mainGlobals "abs" = some none)
    (z3 : PySem.W.nsIn K PySem.mainGlobals "tuple" = some none)
    (z4 : PySem.W.nsIn K PySem.mainGlobals "list" = some none)
    (z5 : PySem.W.nsIn K PySem.mainGlobals "max" = some none)
    (z6 : PySem.W.nsIn K PySem.mainGlobals "min" = some none)
    (z7 : PySem.W.nsIn K PySem.mainGlobals "range" = some none)
    (z8 : PySem.W.nsIn K PySem.mainGlobals "repr" = some none)
    (z9 : PySem.W.nsIn K PySem.mainGlobals "enumerate" = some none)
    (z10 : PySem.W.nsIn K PySem.mainGlobals "sorted" = some none)
    (z11 : PySem.W.nsIn K PySem.mainGlobals "set" = some none)
    (z12 : PySem.W.nsIn K PySem.mainGlobals "zip" = some none)
    (z13 : PySem.W.nsIn K PySem.mainGlobals "dict" = some none)
    (z14 : PySem.W.nsIn K PySem.mainGlobals "all" = some none)
    (z15 : PySem.W.nsIn K PySem.mainGlobals "any" = some none)
    (z16 : PySem.W.nsIn K PySem.mainGlobals "sum" = some none)
    (z17 : PySem.W.nsIn K PySem.mainGlobals "isinstance" = some none)
    (z18 : PySem.W.nsIn K PySem.mainGlobals "bool" = some none)
    (z19 : PySem.W.nsIn K PySem.mainGlobals "str" = some none) : PP.Nm K mg := by
  refine ⟨fun y hy => ?_⟩
  simp only [List.mem_cons, List.not_mem_nil, or_false] at hy
  rcases hy with h | h | h | h | h | h | h | h | h | h | h | h | h | h | h | h | h | h | h | h <;> subst h
  · exact PySem.W.mg_none_of X G z0
  · exact PySem.W.mg_none_of X G z1
  · exact PySem.W.mg_none_of X G z2
  · exact PySem.W.mg_none_of X G z3
  · exact PySem.W.mg_none_of X G z4
  · exact PySem.W.mg_none_of X G z5
  · exact PySem.W.mg_none_of X G z6
  · exact PySem.W.mg_none_of X G z7
  · exact PySem.W.mg_none_of X G z8
  · exact PySem.W.mg_none_of X G z9
  · exact PySem.W.mg_none_of X G z10
  · exact PySem.W.mg_none_of X G z11
  · exact PySem.W.mg_none_of X G z12
  · exact PySem.W.mg_none_of X G z13
  · exact PySem.W.mg_none_of X G z14
  · exact PySem.W.mg_none_of X G z15
  · exact PySem.W.mg_none_of X G z16
  · exact PySem.W.mg_none_of X G z17
  · exact PySem.W.mg_none_of X G z18
  · exact PySem.W.mg_none_of X G z19
open PySem PySem.W PyProof.Rows
set_option maxHeartbeats 0 in
theorem PySem.Challenge.cw_pilepass_k08_rows_of_blocks_holds : PySem.Challenge.rw_pilepass_k08_rows_of_blocks.Holds := by
  w_on; o_law; k_head; (case hw => w_witness2)
  k_fill
  refine PP.walkG (l := PySem.Challenge.rw_pilepass_k08_rows_of_blocks) (n := 63) (k := 40) (x := "script") (sp := fun w => PP.spLaw _) rfl (by decide) rfl ⟨rfl, by decide, by decide⟩ (fun w h Y => PySem.W.kIn_of Y) ?F (fun _ _ a ns hl _ hS => ⟨a, ns, rfl, hS, hl, fun _ => rfl⟩)
  case F =>
    intro w mg fa h KX G hmg
    have h_law_deck : PP.Hd (L2.KOf KX) mg "_law_deck" PP.s_law_deck ["script"] := by
      delta L2.KOf
      refine' PP.hd_mk KX G ?a ?l ?c ?k (fun _ _ _ _ _ _ us hl => match us, hl with | [_], _ => rfl)
      (case a => k_is); (case l => k_is); (case c => k_is); (case k => k_is)
    have h_law_draw : PP.Hd (L2.KOf KX) mg "_law_draw" PP.s_law_draw ["deck", "bound"] := by
      delta L2.KOf
      refine' PP.hd_mk KX G ?a ?l ?c ?k (fun _ _ _ _ _ _ us hl => match us, hl with | [_, _], _ => rfl)
      (case a => k_is); (case l => k_is); (case c => k_is); (case k => k_is)
    have h_law_pick : PP.Hd (L2.KOf KX) mg "_law_pick" PP.s_law_pick ["deck", "items"] := by
      delta L2.KOf
      refine' PP.hd_mk KX G ?a ?l ?c ?k (fun _ _ _ _ _ _ us hl => match us, hl with | [_, _], _ => rfl)
      (case a => k_is); (case l => k_is); (case c => k_is); (case k => k_is)
    have h_law_mixed : PP.Hd (L2.KOf KX) mg "_law_mixed" PP.s_law_mixed ["deck", "items"] := by
      delta L2.KOf
      refine' PP.hd_mk KX G ?a ?l ?c ?k (fun _ _ _ _ _ _ us hl => match us, hl with | [_, _], _ => rfl)
      (case a => k_is); (case l => k_is); (case c => k_is); (case k => k_is)
    have h_law_kind : PP.Hd (L2.KOf KX) mg "_law_kind" PP.s_law_kind ["deck", "many"] := by
      delta L2.KOf
      refine' PP.hd_mk KX G ?a ?l ?c ?k (fun _ _ _ _ _ _ us hl => match us, hl with | [_, _], _ => rfl)
      (case a => k_is); (case l => k_is); (case c => k_is); (case k => k_is)
    have h_law_step : PP.Hd (L2.KOf KX) mg "_law_step" PP.s_law_step ["deck", "at", "near"] := by
      delta L2.KOf
      refine' PP.hd_mk KX G ?a ?l ?c ?k (fun _ _ _ _ _ _ us hl => match us, hl with | [_, _, _], _ => rfl)
      (case a => k_is); (case l => k_is); (case c => k_is); (case k => k_is)
    have h_law_grown : PP.Hd (L2.KOf KX) mg "_law_grown" PP.s_law_grown ["deck", "most"] := by
      delta L2.KOf
      refine' PP.hd_mk KX G ?a ?l ?c ?k (fun _ _ _ _ _ _ us hl => match us, hl with | [_, _], _ => rfl)
      (case a => k_is); (case l => k_is); (case c => k_is); (case k => k_is)
    have h_law_numbered : PP.Hd (L2.KOf KX) mg "_law_numbered" PP.s_law_numbered ["web", "row"] := by
      delta L2.KOf
      refine' PP.hd_mk KX G ?a ?l ?c ?k (fun _ _ _ _ _ _ us hl => match us, hl with | [_, _], _ => rfl)
      (case a => k_is); (case l => k_is); (case c => k_is); (case k => k_is)
    have h_law_rowed : PP.Hd (L2.KOf KX) mg "_law_rowed" PP.s_law_rowed ["deck", "most"] := by
      delta L2.KOf
      refine' PP.hd_mk KX G ?a ?l ?c ?k (fun _ _ _ _ _ _ us hl => match us, hl with | [_, _], _ => rfl)
      (case a => k_is); (case l => k_is); (case c => k_is); (case k => k_is)
    have h_law_web : PP.Hd (L2.KOf KX) mg "_law_web" PP.s_law_web ["deck", "most"] := by
      delta L2.KOf
      refine' PP.hd_mk KX G ?a ?l ?c ?k (fun _ _ _ _ _ _ us hl => match us, hl with | [_, _], _ => rfl)
      (case a => k_is); (case l => k_is); (case c => k_is); (case k => k_is)
    have h_law_ties : PP.Hd (L2.KOf KX) mg "_law_ties" PP.s_law_ties ["web"] := by
      delta L2.KOf
      refine' PP.hd_mk KX G ?a ?l ?c ?k (fun _ _ _ _ _ _ us hl => match us, hl with | [_], _ => rfl)
      (case a => k_is); (case l => k_is); (case c => k_is); (case k => k_is)
    have h_law_joined : PP.Hd (L2.KOf KX) mg "_law_joined" PP.s_law_joined ["web"] := by
      delta L2.KOf
      refine' PP.hd_mk KX G ?a ?l ?c ?k (fun _ _ _ _ _ _ us hl => match us, hl with | [_], _ => rfl)
      (case a => k_is); (case l => k_is); (case c => k_is); (case k => k_is)
    have h_law_pairs : PP.Hd (L2.KOf KX) mg "_law_pairs" PP.s_law_pairs ["web"] := by
      delta L2.KOf
      refine' PP.hd_mk KX G ?a ?l ?c ?k (fun _ _ _ _ _ _ us hl => match us, hl with | [_], _ => rfl)
      (case a => k_is); (case l => k_is); (case c => k_is); (case k => k_is)
    have hgivers_first : PP.Hd (L2.KOf KX) mg "givers_first" PP.sgivers_first ["web"] := by
      delta L2.KOf
      refine' PP.hd_mk KX G ?a ?l ?c ?k (fun _ _ _ _ _ _ us hl => match us, hl with | [_], _ => rfl)
      (case a => k_is); (case l => k_is); (case c => k_is); (case k => k_is)
    have h_law_row : PP.Hd (L2.KOf KX) mg "_law_row" PP.s_law_row ["joined", "block"] := by
      delta L2.KOf
      refine' PP.hd_mk KX G ?a ?l ?c ?k (fun _ _ _ _ _ _ us hl => match us, hl with | [_, _], _ => rfl)
      (case a => k_is); (case l => k_is); (case c => k_is); (case k => k_is)
    have hblocks : PP.Hd (L2.KOf KX) mg "blocks" PP.sblocks ["web"] := by
      delta L2.KOf
      refine' PP.hd_mk KX G ?a ?l ?c ?k (fun _ _ _ _ _ _ us hl => match us, hl with | [_], _ => rfl)
      (case a => k_is); (case l => k_is); (case c => k_is); (case k => k_is)
    have hrow_of : PP.Hd (L2.KOf KX) mg "row_of" PP.srow_of ["web", "block"] := by
      delta L2.KOf
      refine' PP.hd_mk KX G ?a ?l ?c ?k (fun _ _ _ _ _ _ us hl => match us, hl with | [_, _], _ => rfl)
      (case a => k_is); (case l => k_is); (case c => k_is); (case k => k_is)
    have hnear_steps : PP.Hd (L2.KOf KX) mg "near_steps" PP.snear_steps ["web"] := by
      delta L2.KOf
      refine' PP.hd_mk KX G ?a ?l ?c ?k (fun _ _ _ _ _ _ us hl => match us, hl with | [_], _ => rfl)
      (case a => k_is); (case l => k_is); (case c => k_is); (case k => k_is)
    have htakers_of : PP.Hd (L2.KOf KX) mg "takers_of" PP.stakers_of ["web"] := by
      delta L2.KOf
      refine' PP.hd_mk KX G ?a ?l ?c ?k (fun _ _ _ _ _ _ us hl => match us, hl with | [_], _ => rfl)
      (case a => k_is); (case l => k_is); (case c => k_is); (case k => k_is)
    have hrow_among : PP.Hd (L2.KOf KX) mg "row_among" PP.srow_among ["web", "steps", "block"] := by
      delta L2.KOf
      refine' PP.hd_mk KX G ?a ?l ?c ?k (fun _ _ _ _ _ _ us hl => match us, hl with | [_, _, _], _ => rfl)
      (case a => k_is); (case l => k_is); (case c => k_is); (case k => k_is)
    have nm : PP.Nm (L2.KOf KX) mg := by
      delta L2.KOf
      refine' PP.nm_mk KX G ?z0 ?z1 ?z2 ?z3 ?z4 ?z5 ?z6 ?z7 ?z8 ?z9 ?z10 ?z11 ?z12 ?z13 ?z14 ?z15 ?z16 ?z17 ?z18 ?z19
      (case z0 => k_is); (case z1 => k_is); (case z2 => k_is); (case z3 => k_is); (case z4 => k_is); (case z5 => k_is); (case z6 => k_is); (case z7 => k_is); (case z8 => k_is); (case z9 => k_is); (case z10 => k_is); (case z11 => k_is); (case z12 => k_is); (case z13 => k_is); (case z14 => k_is); (case z15 => k_is); (case z16 => k_is); (case z17 => k_is); (case z18 => k_is); (case z19 => k_is)
    have gs : PP.SearchC (L2.KOf KX) mg := by
      delta L2.KOf
      refine' PP.search_mk KX G ?aC ?a0 ?i0 ?l0 ?c0 ?k0 ?a1 ?i1 ?l1 ?c1 ?k1 ?a2 ?i2 ?l2 ?c2 ?k2 ?pg ?hd ?po ?sa ?mk ?kc ?nnear ?nranks ?nlows ?npath ?nfound
      (case aC => k_is); (case a0 => k_is); (case i0 => k_is); (case l0 => k_is); (case c0 => k_is); (case k0 => k_is); (case a1 => k_is); (case i1 => k_is); (case l1 => k_is); (case c1 => k_is); (case k1 => k_is); (case a2 => k_is); (case i2 => k_is); (case l2 => k_is); (case c2 => k_is); (case k2 => k_is); (case pg => k_is); (case hd => k_is); (case po => k_is); (case sa => k_is); (case mk => k_is); (case kc => k_is); (case nnear => k_is); (case nranks => k_is); (case nlows => k_is); (case npath => k_is); (case nfound => k_is)
    refine' PP.law_mk KX G hmg ?a ?l ?c ?k nm gs ⟨h_law_deck, h_law_draw, h_law_pick, h_law_mixed, h_law_kind, h_law_step, h_law_grown, h_law_numbered, h_law_rowed, h_law_web, h_law_ties, h_law_joined, h_law_pairs, hgivers_first, h_law_row, hblocks, hrow_of, hnear_steps, htakers_of, hrow_among⟩
    (case a => k_is); (case l => k_is); (case c => k_is); (case k => k_is)
