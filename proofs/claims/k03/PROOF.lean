import PyProof.Rows.All
import Wide.All
import OpenK.AllK
import Wide.FinOn
import HandS.Wide
import HandS.Base
import HandS.Call
import HandS.List
import HandS.Comp
import HandS.Ends
import HandS.Dict
import HandS.Iter
import HandS.Text
import HandS.Words
import HandS.Codes
import HandS.Defaults
import HandS.IsInst
import HandS.MakeKwOnly
import HandS.DictComp
import HandS.DictEq
import HandS.More
import HandS.Conv
import HandS.FStr
import HandS.Style
import KE.KDictZip
import KE.KFmtOwn
import HandS.Walk
import HandS.Lambda
import HandS.Nested
import KE.KDictKeyed
import KE.KDictCopyH
import KE.KDictDisplayH
import HandS.Deep
import HandS.WordsDict
import KE.GoesMore
import PyProof.EnumMake
import KE.SortData
import HandS.Zip
import HandS.WideBits
import HandS.TupLe
import KE.DataMinMax
import HandS.SetKeys
import HandS.Strs
import HandS.SetFor
import PyProof.Rows.SetFrom
import PyProof.DictUpdate
import PyProof.DictDisplay
import PyProof.ReprRoads
import HandS.Exc
import HandS.ExcOwn
import HandS.TryMany
import HandS.ExcCtx
import HandS.ExcField
import HandS.HotCalls
import HandS.ClsMeth
import HandS.ExcInit
import KE.KExcInit
import PyProof.ExcFactsAll.LookupError
import PyProof.ExcFactsAll.IndexError
import HandS.WordsExc
import PyProof.StrLawsRepr
import HandS.EndTab
import HandS.NestedK
import KE.GoesZip
import HandS.Star
import HandS.SortKw
import HandS.ListItems
import HandS.TupSets
import HandS.SetBool
import HandS.TupAny
import HandS.Small
import HandS.DictTup
import KE.KDictSum
import KE.KDictWalk
import HandS.Flow
import KE.KExcLine
import PySem.Challenge.RW_raisekeys_k03_wrong_desks
set_option Elab.async false
set_option linter.all false
set_option maxRecDepth 100000
set_option maxHeartbeats 4000000
namespace RK
open PySem PySem.Spec PyProof.Rows L2
theorem same_new {H : Hp} {p : Addr} (h : H p = none) (o : HO) : Same H (upd H p o) := fun b u q => by rw [upd_ne (ne_of_none q h)]; exact q
def Keep (b : Addr) (H H' : Hp) : Prop := ∀ a o, a ≠ b → H a = some o → H' a = some o
theorem Keep.refl (b : Addr) (H : Hp) : Keep b H H := fun _ _ _ h => h
theorem Keep.trans {b : Addr} {H H1 H2 : Hp} (a : Keep b H H1) (c : Keep b H1 H2) : Keep b H H2 := fun x o n h => c x o n (a x o n h)
theorem Keep.of {b : Addr} {H H1 : Hp} (a : Same H H1) : Keep b H H1 := fun x o _ h => a x o h
theorem Keep.upd {b : Addr} {H H1 : Hp} {o : HO} (a : Keep b H H1) : Keep b H (upd H1 b o) := fun x u n h => by rw [upd_ne n]; exact a x u n h
theorem Keep.tup {b t : Addr} {H H1 : Hp} {xs ys : List V} (k : Keep b H H1) (hb : H b = some (.lst ys)) (h : H t = some (.tup xs)) : H1 t = some (.tup xs) := k t _ (ne_of h hb (by intro z; cases z)) h
theorem Keep.dK {b t : Addr} {H H1 : Hp} {xs : List (Key × V)} {ys : List V} (k : Keep b H H1) (hb : H b = some (.lst ys)) (h : H t = some (.dK xs)) : H1 t = some (.dK xs) := k t _ (ne_of h hb (by intro z; cases z)) h
theorem Keep.free {b l : Addr} {H H1 : Hp} (k : Keep b H H1) (n : l ≠ b) (h : H1 l = none) : H l = none := by
  cases q : H l with
  | none => rfl
  | some o =>
    rw [k l o n q] at h
    cases h
structure BagC (H : Hp) (b s : Addr) (ns : List Int) (i : Nat) (big salt : Int) : Prop where
  hb : H b = some (.lst [.ref s, .int i, .int big, .int salt])
  hs : H s = some (.lst (ns.map V.int))
  ne : s ≠ b
  hi : i ≤ ns.length
  hn : ns.length ≤ 63
  h0 : 0 ≤ big
  h1 : 0 ≤ salt
  h2 : salt < 2147483647
def Bag (b s : Addr) (H : Hp) : Prop := ∃ ns i big salt, BagC H b s ns i big salt
theorem Bag.hb {b s : Addr} {H : Hp} (B : Bag b s H) : ∃ ys, H b = some (.lst ys) := by
  obtain ⟨ns, i, big, salt, B⟩ := B
  exact ⟨_, B.hb⟩
theorem Bag.hs {b s : Addr} {H : Hp} (B : Bag b s H) : ∃ ys, H s = some (.lst ys) := by
  obtain ⟨ns, i, big, salt, B⟩ := B
  exact ⟨_, B.hs⟩
theorem Bag.ne {b s : Addr} {H : Hp} (B : Bag b s H) : s ≠ b := by
  obtain ⟨ns, i, big, salt, B⟩ := B
  exact B.ne
theorem Bag.same {b s : Addr} {H H1 : Hp} (B : Bag b s H) (e : Same H H1) : Bag b s H1 := by
  obtain ⟨ns, i, big, salt, B⟩ := B
  exact ⟨ns, i, big, salt, e _ _ B.hb, e _ _ B.hs, B.ne, B.hi, B.hn, B.h0, B.h1, B.h2⟩
theorem Bag.new {b s p : Addr} {H : Hp} {o : HO} (B : Bag b s H) (h : H p = none) : Bag b s (upd H p o) := B.same (same_new h o)
theorem Bag.upd {b s p : Addr} {H : Hp} {o : HO} (B : Bag b s H) (h1 : p ≠ b) (h2 : p ≠ s) : Bag b s (upd H p o) := by
  obtain ⟨ns, i, big, salt, B⟩ := B
  exact ⟨ns, i, big, salt, by rw [upd_ne h1.symm]; exact B.hb, by rw [upd_ne h2.symm]; exact B.hs, B.ne, B.hi, B.hn, B.h0, B.h1, B.h2⟩
theorem Keep.of_tup {b s t : Addr} {H H1 : Hp} {xs : List V} (k : Keep b H H1) (B : Bag b s H) (h : H t = some (.tup xs)) : H1 t = some (.tup xs) := by
  obtain ⟨ys, hb⟩ := B.hb
  exact k.tup hb h
theorem sz {n : Nat} (h : n ≤ 1000) : n ≤ sizeLine := Nat.le_of_lt (small1000 h)
theorem cdivw {n : Int} (h1 : 1 ≤ n) (h2 : n ≤ 10000000000000000000000000000000000000000) : CDivW 0 n := by
  refine ⟨by omega, ?_⟩
  have h3 : n.natAbs < 2 ^ 200 := by
    have e : (2 : Nat) ^ 200 = 1606938044258990275541962092341162602522202993782792835301376 := by decide +kernel
    rw [e]
    omega
  have := (Nat.log2_lt (by omega)).mpr h3
  omega
def NoT (H H' : Hp) : Prop := ∀ a ps, H' a = some (.tbl ps) → ∃ qs, H a = some (.tbl qs)
def Ntb : HO → Prop
  | .tbl _ => False
  | _ => True
theorem noT_upd {H : Hp} {p : Addr} {o : HO} (n : Ntb o) : NoT H (upd H p o) := fun a ps h => by
  by_cases e : a = p
  · rw [e, upd_same] at h
    cases h
    exact n.elim
  · rw [upd_ne e] at h
    exact ⟨_, h⟩
structure KeepT (b : Addr) (H H' : Hp) : Prop where
  f : Keep b H H'
  n : NoT H H'
theorem KeepT.refl (b : Addr) (H : Hp) : KeepT b H H := ⟨Keep.refl b H, fun _ _ z => ⟨_, z⟩⟩
theorem KeepT.upd {b : Addr} {H H1 : Hp} {xs : List V} (k : KeepT b H H1) : KeepT b H (upd H1 b (.lst xs)) := ⟨k.f.upd, fun a ps h => let ⟨qs, q⟩ := noT_upd (o := .lst xs) True.intro a ps h; k.n a qs q⟩
def spPull : Sp := fun vs H Q _ => ∃ (b s : Addr) (n : Int), vs = [.ref b, .int n] ∧ Bag b s H ∧ 1 ≤ n ∧ n ≤ 10000000000000000000000000000000000000000 ∧ ∀ r H', 0 ≤ r → r < n → KeepT b H H' → Bag b s H' → Q (.int r) H'
theorem cut63 (ns : List Int) (h : ns.length ≤ 63) : cutV (ns.map V.int) none (some 63) = ns.map V.int := by
  unfold cutV
  rw [HT.sIx_none, show HT.sIx (ns.map V.int).length (ns.map V.int).length (some 63) = min 63 (ns.map V.int).length from HT.sIx_nat _ _ 63]
  rw [List.drop_zero, List.length_map]
  exact List.take_of_length_le (by rw [List.length_map]; omega)
theorem at0 {α : Type} {x : α} {xs : List α} : atI (x :: xs) 0 = some x := atI_nat (j := 0) rfl
theorem at1 {α : Type} {x y : α} {xs : List α} : atI (x :: y :: xs) 1 = some y := atI_nat (j := 1) rfl
theorem at2 {α : Type} {x y z : α} {xs : List α} : atI (x :: y :: z :: xs) 2 = some z := atI_nat (j := 2) rfl
theorem at3 {α : Type} {x y z w : α} {xs : List α} : atI (x :: y :: z :: w :: xs) 3 = some w := atI_nat (j := 3) rfl
section
variable {X : Cx} {CX : CXT} {k : Nat} {f : Addr} {fd : FuncData} {ps ks : List Str} {sp : Sp} {E : XK} {x : Str} {p pos : Pos} {kws : List Keyword} {tk : TA} {g : List Value → List Value → List Value} {gV : List V → List V → List V}
end
def rLenQ (K : PySem.W.Frag) : List V → Hp → VK → Prop := fun xs H Q => ∃ p ys, xs = [.ref p] ∧ (SqL K H p ys ∨ SqT K H p ys) ∧ Q (.int ys.length) H
theorem call_lenQ {X : Cx} : CallR X (.builtin "len") (rLenQ X.K) := call_len_seq
def rListQ (K : PySem.W.Frag) : List V → Hp → VK → Prop := fun xs H Q => ∃ p ys, xs = [.ref p] ∧ (SqL K H p ys ∨ SqT K H p ys) ∧ ∀ l, H l = none → Q (.ref l) (upd H l (.lst ys))
theorem call_listQ {X : Cx} : CallR X (.type "list") (rListQ X.K) := call_list_of
section
variable {K : PySem.W.Frag} {H H' : Hp}
theorem same_tup {a : Addr} {xs : List V} (e : Same H H') (h : SqT K H a xs) : SqT K H' a xs := by
  rcases h with (h | ⟨o, h⟩) | h
  · exact .inl (.inl (e _ _ h))
  · exact .inl (.inr ⟨o, e _ _ h⟩)
  · exact .inr h
mutual
theorem dp_same (e : Same H H') : ∀ {v : V} {d : PyData}, Dp K H v d → Dp K H' v d
  | _, _, .non => .non
  | _, _, .bl b => .bl b
  | _, _, .int i => .int i
  | _, _, .str x => .str x
  | _, _, .lst h a => .lst (e.seq h) (dpAll_same e a)
  | _, _, .tup h a => .tup (same_tup e h) (dpAll_same e a)
theorem dpAll_same (e : Same H H') : ∀ {vs : List V} {ds : List PyData}, DpAll K H vs ds → DpAll K H' vs ds
  | _, _, .nil => .nil
  | _, _, .cons h a => .cons (dp_same e h) (dpAll_same e a)
end
def isT : PyData → Bool
  | .tuple _ => true | _ => false
end
structure R where
  l : Int
  t : Int
  r : Int
  b : Int
def R.vs (p : R) : List V := [.int p.l, .int p.t, .int p.r, .int p.b]
def R.ds (p : R) : List PyData := [.int p.l, .int p.t, .int p.r, .int p.b]
def R.good (p : R) : Prop := -1000000000 ≤ p.l ∧ p.l ≤ 1000000000 ∧ -1000000000 ≤ p.t ∧ p.t ≤ 1000000000 ∧ -1000000000 ≤ p.r ∧ p.r ≤ 1000000000 ∧ -1000000000 ≤ p.b ∧ p.b ≤ 1000000000 ∧ p.l < p.r ∧ p.t < p.b
def R.has (p : R) (x y : Int) : Prop := p.l ≤ x ∧ x < p.r ∧ p.t ≤ y ∧ y < p.b
theorem R.dp {K : PySem.W.Frag} {H : Hp} (p : R) : DpAll K H p.vs p.ds := .cons (.int _) (.cons (.int _) (.cons (.int _) (.cons (.int _) .nil)))
end RK
namespace RK
open PySem PySem.Spec PyProof.Rows L2
section
variable {X : Cx}
theorem run_special {CX : CXT} {n : Nat} {f : Addr} {fd : FuncData} {ps : List Str} {sp : Sp} {E : XK} {A : Around} {pins : List (Addr × Obj)} {σ : L2.St} {H : Hp} {s : Shared} {us : List Value} {vs : List V} {Q : VK}
    (F : FnOk X.prog X.w X.K X.mg X.base CX n f fd ps sp) (hr : Room n A) (hf : A.frames = X.A.frames) (hb : Binds X.K fd ps []) (hx : Passes CX X E) (I : Inv X pins σ H s) (r : Vals vs us) (h : sp vs H Q E) :
    wpAny (model X.prog X.w) A (call (.ref f) us) (EP X pins σ Q) X.xe s := by
  have e0 : Env0 X.prog X.w X.K X.mg X.base A X.stack s H := by
    have e := I.env0
    exact ⟨by rw [hf]; exact e.frames, e.mod, e.bs, e.bsz, e.funs, e.frf, e.hok, e.bare⟩
  have hl := F.len _ _ _ _ h
  refine wpAny_call (codeAny_mono (F.run A X.stack s H ⟨us, []⟩ us vs Q E hr e0 (by
    have := hb s us I.kIn (by rw [List.append_nil, ← r.length]; exact hl)
    simpa using this) r h) fun r s' hq => ?_)
  cases r with
  | error e => exact hx pins σ H s e s' I hq
  | ok fl =>
    cases fl with
    | ret w => exact I.after hq
    | next => exact False.elim hq
    | brk => exact False.elim hq
    | cont => exact False.elim hq
inductive NotSub (K : PySem.W.Frag) (C : Addr) (H : Hp) : V → Prop
  | ins {a dx : Addr} {fs : List (Str × V)} : H a = some (.ins C dx fs) → NotSub K C H (.ref a)
  | dK {a : Addr} {kvs : List (Key × V)} : H a = some (.dK kvs) → PySem.W.subIn K (.type "dict") (.ref C) = some false → NotSub K C H (.ref a)
  | lst {a : Addr} {xs : List V} : H a = some (.lst xs) → PySem.W.subIn K (.type "list") (.ref C) = some false → NotSub K C H (.ref a)
def rLenOwn (C : Addr) (sp : Sp) (E : XK) : List V → Hp → VK → Prop := fun vs H Q => ∃ (a dx : Addr) (fs : List (Str × V)), vs = [.ref a] ∧ H a = some (.ins C dx fs) ∧ sp [.ref a] H (fun v H' => ∃ i : Int, v = .int i ∧ 0 ≤ i ∧ i < 2 ^ 63 ∧ Q (.int i) H') E
theorem call_lenOwn {CX : CXT} {n : Nat} {C f : Addr} {fd : FuncData} {ps : List Str} {sp : Sp} {E : XK} (F : FnOk X.prog X.w X.K X.mg X.base CX n f fd ps sp) (hr : Room (n + 1) X.A)
    (hs : PySem.W.findIn X.K (.ref C) "__len__" = some (some (.ref f))) (hf : PySem.W.isFn X.K (.ref f) = true) (hb : Binds X.K fd ps []) (hx : Passes CX X E) : CallR X (.builtin "len") (rLenOwn C sp E) := by
  intro pins s σ H xs us Q I r h
  obtain ⟨a, dx, fs, rfl, ha, h⟩ := h
  obtain ⟨u, rfl, rx⟩ := vals1 r
  cases rx
  obtain ⟨mA, J, _⟩ := ins_get I.hok ha
  obtain ⟨od, J, _⟩ := J.look
  obtain ⟨m, hF⟩ := I.fr
  refine PySem.W.len_K hF I.ok.mod.kin J hs hf ?_
  refine wpAny_mono (run_special F hr.in1 rfl hb hx I (vs := [.ref a]) (.cons (show RelV (.ref a) (.ref a) from rfl) .nil) h) (fun r s' q => ?_) fun _ _ z => z
  obtain ⟨z, H', I', rz, i, rfl, h0, h1, q⟩ := q
  obtain ⟨t, rfl⟩ := rz
  exact ⟨⟨h0, h1⟩, .int i, H', I'.tok _, ⟨_, rfl⟩, q⟩
def tDictZip (K : PySem.W.Frag) (ta : TA) : TE := fun σ H Q => ta σ H fun vs H1 => ∃ (a b : Addr) (ks : List Key) (ys : List V), vs = [.ref a, .ref b] ∧ SqL K H1 a (ks.map kV) ∧ SqL K H1 b ys ∧ ks.length = ys.length ∧ ∀ p, H1 p = none → Q (.ref p) (upd H1 p (.dK (mergeK [] (ks.zip ys))))
theorem kv_zip : ∀ {ks : List Key} {ys : List V} {us ws : List Value}, Vals (ks.map kV) us → Vals ys ws → KV (ks.zip ys) (ks.zip ws)
  | [], _, _, _, _, _ => by
    rw [List.zip_nil_left, List.zip_nil_left]
    exact .nil
  | k :: ks, [], _, _, _, r2 => by
    cases r2
    exact .nil
  | k :: ks, y :: ys, _, _, r1, r2 => by
    cases r1 with
    | cons _ r1 =>
      cases r2 with
      | cons h r2 => exact .cons ⟨rfl, h⟩ (kv_zip r1 r2)
theorem vals_at {k : Key} {P : Program} {w : World} : ∀ {ks : List Key} {us : List Value} {i : Nat} {u : Value}, Vals (ks.map kV) us → us[i]? = some u → ∃ k, ks[i]? = some k ∧ (mixKind P w).is k u = true
  | [], _, _, _, r, h => by
    cases r
    simp at h
  | k :: ks, _, 0, _, r, h => by
    cases r with
    | cons h1 _ =>
      have e := Option.some.inj h
      subst e
      exact ⟨k, rfl, kV_is h1⟩
  | k' :: ks, _, i + 1, _, r, h => by
    cases r with
    | cons _ r => exact vals_at (k := k) (i := i) r h
theorem pe_dictZip {e e2 : Expr} {ta : TA} {p p2 pos pos2 : Pos} (hc : X.calm = true) (hg : Gl X "dict") (hm : X.mg "dict" = none) (hg2 : Gl X "zip") (hm2 : X.mg "zip" = none) (ha : PA X [e, e2] ta)
    (hs : starEach [e, e2] X.env = (false, eval e X.env) :: starEach [e2] X.env := by rfl) (hpl : (backTo pos2 (starEach [e2] X.env)).any (·.1) = false := by rfl)
    (hs2 : starEach [.Call (.Name "zip" p2) [e, e2] [] pos2] X.env = (false, eval (.Call (.Name "zip" p2) [e, e2] [] pos2) X.env) :: starEach [] X.env := by rfl) :
    PE X (.Call (.Name "dict" p) [.Call (.Name "zip" p2) [e, e2] [] pos2] [] pos) (tDictZip X.K ta) := by
  refine ⟨fun pins s σ H Q I h => ?_⟩
  refine Call_ (ld_blt I hg hm (show bootBuiltins "dict" = some (.type "dict") by decide +kernel) (PyProof.Rows.callWith_type1 (args_cons (Call_ (ld_blt I hg2 hm2 PyProof.Rows.boot_zip (PyProof.Rows.callWith_type1 (thn (ha.run pos2 pins s σ H _ I h) fun us s1 ⟨vs, H1, I1, r1, q1⟩ => ?_) hs hpl))) hs2) hs2 rfl))
  obtain ⟨a, b, ks, ys, ex, hqx, hqy, hln, q⟩ := q1
  subst ex
  cases r1 with
  | cons r rr =>
    cases rr with
    | cons r' rr =>
      cases rr
      cases r
      cases r'
      obtain ⟨its, rv, p1, z1⟩ := I1.list hqx
      obtain ⟨its2, rv2, p2', z2⟩ := I1.list hqy
      have la : a < s1.heap.objs.size := p1.lt
      have lb : b < s1.heap.objs.size := p2'.lt
      have hl1 : its.length = ks.length := by rw [← rv.length, List.length_map]
      have hl2 : its2.length = ks.length := by rw [← rv2.length, hln]
      refine call_zip_2 p1.isList p2'.isList fun h' hz hTI hTO h1 h2 hsz hk => args_nil ?_
      have I2 : Inv X pins σ H1 { s1 with heap := h' } := I1.kept (t' := s1.toks) hk
      have hmin : min its.toArray.size its2.toArray.size = ks.length := by rw [List.size_toArray, List.size_toArray, hl1, hl2, Nat.min_self]
      refine PySem.call_dict_pairs (s := { s1 with heap := h' }) (knd := mixKind X.prog X.w) (kvs := ks.zip its2) (PairArg.zip _ _ _ _ _ a b (PySem.W.ktu_apart s1.heap.objs.size a b la lb) its.toArray its2.toArray) (I1.ok.hd hc)
        ⟨hz, hTI, ⟨_, _, hTO⟩, h1, h2, p1.isList.at fun o e => hk _ o e, p2'.isList.at fun o e => hk _ o e⟩ ⟨?_, ?_⟩ ?_ ?_
      · rw [hmin, List.length_zip, hl2, Nat.min_self]
      · rintro i key v ⟨e1, e2⟩
        rw [List.getElem?_toArray] at e1 e2
        obtain ⟨k, hk1, hk2⟩ := vals_at (k := .inl 0) (P := X.prog) (w := X.w) rv e1
        exact ⟨k, by rw [List.getElem?_zip_eq_some]; exact ⟨hk1, e2⟩, hk2⟩
      · rw [hmin, ← hl1, ← rv.length]
        exact z1
      · intro h2' tk hd' hk2
        have hbig : s1.heap.objs.size ≤ h'.objs.size := by omega
        have fr : ∀ c, c ∈ [s1.heap.objs.size + 4, s1.heap.objs.size + 3, s1.heap.objs.size, s1.heap.objs.size + 1] → s1.heap.get? c = none := fun c hc' => by
          simp only [List.mem_cons, List.not_mem_nil, or_false] at hc'
          have : s1.heap.objs.size ≤ c := by rcases hc' with z | z | z | z <;> omega
          exact Heap.get?_none_of_le this
        have keep : ∀ c o, s1.heap.get? c = some o → h2'.get? c = some o := fun c o e => by
          refine hk2 c o (fun hm' => ?_) (hk _ _ e)
          rw [fr c hm'] at e
          cases e
        have hm' : (h'.objs.size == sysModules) = false := beq_eq_false_iff_ne.mpr (Nat.ne_of_gt (Nat.lt_of_lt_of_le I1.big hbig))
        have hlen : (mergeK [] (ks.zip ys)).length ≤ sizeLine := by
          refine Nat.le_trans (length_mergeK _ []) ?_
          rw [List.length_nil, Nat.zero_add, List.length_zip, ← hln, Nat.min_self, ← hl1, ← rv.length]
          exact z1
        exact ⟨.ref h'.objs.size, upd H1 h'.objs.size (.dK (mergeK [] (ks.zip ys))), I1.laid (t' := tk) keep hbig (show ObjOk X.prog X.w _ _ _ (.dK (mergeK [] (ks.zip ys))) from ⟨hlen, hm', merged [] (ks.zip its2), KV.merge (kv_zip rv rv2) .nil, hd'⟩), rfl, q _ (I1.hok.fresh hbig)⟩
end
theorem kit_me (K : PySem.W.Frag) (C : Addr) : PySem.W.kitOne K (.ref C) (.ref C) = some true := by
  unfold PySem.W.kitOne
  rw [if_pos (by simp)]
theorem kit_sub {K : PySem.W.Frag} {C : Addr} {n : String} (h1 : PySem.W.isClsIn K C = true) (h2 : PySem.W.typeIn K (.ref C) = some (.type "type")) (h3 : PySem.W.subIn K (.type n) (.ref C) = some false) : PySem.W.kitOne K (.type n) (.ref C) = some false := by
  unfold PySem.W.kitOne
  rw [if_neg (by simp)]
  show (if ((PySem.W.clsIn K C).isSome && PySem.W.typeIn K (.ref C) == some (.type "type")) = true then PySem.W.subIn K (.type n) (.ref C) else none) = some false
  have h1' : (PySem.W.clsIn K C).isSome = true := h1
  rw [h1', h2, if_pos (by simp)]
  exact h3
end RK
namespace RK
open PySem PySem.Spec PyProof.Rows L2
section
open PySem.W
variable {prog : Program} {w : World} {K : PySem.W.Frag} {A : Around} {E : Value → Shared → Prop} {s : Shared} {x C f : Addr} {ox : Obj} {od : Option Obj}
open Builtin in
end
section
variable {X : Cx}
end
section
variable {X : Cx} {CX : CXT} {k : Nat} {f C : Addr} {fd : FuncData} {ps ks : List Str} {sp : Sp} {E : XK} {m : Str} {pos apos : Pos} {o : Expr} {kws : List Keyword} {ta : TE} {tk : TA} {g : List Value → List Value → List Value} {gV : List V → List V → List V}
end
end RK
namespace RK
open PySem PySem.Spec PyProof.Rows L2
theorem str_len (z : Str) : z.length = z.cps.toList.length := by
  show z.cps.size = _
  simp
theorem app_codes (a b : Str) : (a ++ b).cps.toList = a.cps.toList ++ b.cps.toList := by
  show (a.cps ++ b.cps).toList = _
  simp
theorem cut_codes (z : Str) (lo hi : Option Int) : (cutS z lo hi).cps.toList = (z.cps.toList.drop (HT.sIx z.length 0 lo)).take (HT.sIx z.length z.length hi - HT.sIx z.length 0 lo) := by
  unfold cutS
  simp
theorem str_ext {a b : Str} (h : a.cps.toList = b.cps.toList) : a = b := by
  obtain ⟨⟨x⟩⟩ := a
  obtain ⟨⟨y⟩⟩ := b
  simp at h
  rw [h]
def Low (c : Nat) : Prop := 97 ≤ c ∧ c ≤ 122
def NameOk (z : Str) : Prop := 1 ≤ z.length ∧ z.length ≤ 6 ∧ ∀ c ∈ z.cps.toList, Low c
abbrev abc : Str := "abcdefghijklmnopqrstuvwxyz"
theorem abc_codes : abc.cps.toList = List.range' 97 26 := by decide +kernel
theorem abc_len : abc.length = 26 := by rw [str_len, abc_codes]; rfl
theorem abc_mem {c : Nat} : c ∈ abc.cps.toList ↔ Low c := by
  rw [abc_codes, List.mem_range'_1]
  unfold Low
  omega
theorem one_len (c : Nat) : (⟨#[c]⟩ : Str).length = 1 := rfl
theorem mul_codes (c : Nat) : ∀ n : Nat, 1 ≤ n → ∃ k, (Txt.mul ⟨#[c]⟩ (n : Int)).cps.toList = List.replicate k c ∧ k = n := by
  intro n hn
  refine ⟨n, ?_, rfl⟩
  unfold Txt.mul
  rw [if_neg (by omega)]
  by_cases h1 : n = 1
  · subst h1
    rfl
  · have e1 : (((n : Int) == 1) || (⟨#[c]⟩ : Str).length == 0) = false := by
      have : ((n : Int) == 1) = false := by simp; omega
      rw [this]
      rfl
    rw [e1, if_neg (by decide)]
    show ((List.replicate (n : Int).toNat #[c]).foldl (· ++ ·) #[]).toList = _
    rw [Int.toNat_natCast]
    have key : ∀ (m : Nat) (acc : Array Nat), ((List.replicate m #[c]).foldl (· ++ ·) acc).toList = acc.toList ++ List.replicate m c := by
      intro m
      induction m with
      | zero => intro acc; simp
      | succ m ih =>
        intro acc
        rw [List.replicate_succ, List.foldl_cons, ih]
        simp [List.replicate_succ]
    rw [key]
    rfl
section
variable {X : Cx}
theorem op_mul_str : OpR X (binaryOp .Mult) (fun x y H Q => ∃ (c : Nat) (n : Int), x = .str ⟨#[c]⟩ ∧ y = .int n ∧ 1 ≤ n ∧ n ≤ 1000 ∧ Q (.str (Txt.mul ⟨#[c]⟩ n)) H) := by
  intro pins s σ H x y u v Q I rx ry h
  obtain ⟨c, n, rfl, rfl, h1, h2, q⟩ := h
  obtain ⟨t, rfl⟩ := rx
  obtain ⟨k, rfl⟩ := ry
  refine PySem.SB.mul (x := ⟨#[c]⟩) ⟨?_, ?_, ?_⟩ (fun t' k' => ⟨.str _, H, I.tok _, ⟨_, rfl⟩, q⟩)
  · rw [decide_eq_false (by omega), decide_eq_false (by omega)]
    rfl
  · intro _ _
    have : (1 : Int) ≤ (2 ^ 63 - 1) / n := by
      rw [Int.le_ediv_iff_mul_le (by omega)]
      omega
    show ¬ ((1 : Int) > _)
    omega
  · intro _ _
    show Builtin.Str.tooLong (1 * n.toNat) = false
    rw [Nat.one_mul]
    have hn : n.toNat ≤ 1000 := by omega
    unfold Builtin.Str.tooLong
    exact decide_eq_false (by
      have : (1000 : Nat) ≤ sizeLine := by decide
      omega)
end
def leS (a b : Str) : Prop := ¬ b.cps.toList < a.cps.toList
theorem leS_antisymm {a b : Str} (h1 : leS a b) (h2 : leS b a) : a = b := str_ext (List.le_antisymm (List.not_lt.mp h1) (List.not_lt.mp h2))
theorem leS_trans {a b c : Str} (h1 : leS a b) (h2 : leS b c) : leS a c := List.not_lt.mpr (List.le_trans (List.not_lt.mp h1) (List.not_lt.mp h2))
theorem leS_total (a b : Str) : leS a b ∨ leS b a := by
  rcases List.le_total a.cps.toList b.cps.toList with h | h
  · exact .inl (List.not_lt.mpr h)
  · exact .inr (List.not_lt.mpr h)
theorem rising_of : ∀ (r : List Str) (p : Str), risingS p r = true → (p :: r).Pairwise leS
  | [], p, _ => List.pairwise_singleton _ _
  | x :: r, p, h => by
    have h : (!ltCps x.cps.toList p.cps.toList && risingS x r) = true := h
    rw [Bool.and_eq_true] at h
    have ih := rising_of r x h.2
    have h1 : leS p x := by
      have h0 := h.1
      rw [ltCps_eq] at h0
      simpa [leS] using h0
    refine List.pairwise_cons.mpr ⟨fun y hy => ?_, ih⟩
    rcases List.mem_cons.mp hy with rfl | hy
    · exact h1
    · exact leS_trans h1 ((List.pairwise_cons.mp ih).1 y hy)
theorem sorted_of {l : List Str} (h : sortedS l = true) : l.Pairwise leS := by
  cases l with
  | nil => exact List.Pairwise.nil
  | cons x r => exact rising_of r x h
theorem sorted_one : ∀ {a b : List Str}, a.Perm b → a.Pairwise leS → b.Pairwise leS → a = b
  | [], b, p, _, _ => (List.nil_perm.mp p).symm
  | x :: a, [], p, _, _ => absurd p.length_eq (by simp)
  | x :: a, y :: b, p, h1, h2 => by
    have c1 := List.pairwise_cons.mp h1
    have c2 := List.pairwise_cons.mp h2
    have e : x = y := by
      have hx : x ∈ y :: b := p.mem_iff.mp List.mem_cons_self
      have hy : y ∈ x :: a := p.mem_iff.mpr List.mem_cons_self
      rcases List.mem_cons.mp hx with e | hx
      · exact e
      · rcases List.mem_cons.mp hy with e | hy
        · exact e.symm
        · exact leS_antisymm (c1.1 y hy) (c2.1 x hx)
    subst e
    rw [sorted_one ((List.perm_cons x).mp p) c1.2 c2.2]
end RK
namespace RK
open PySem PySem.Spec PyProof.Rows L2
abbrev W3 := Str × Addr × R
def kvOf (w : W3) : Key × V := (Sum.inr w.1, .ref w.2.1)
def Names (ws : List W3) : List Str := ws.map (·.1)
theorem inr_inj {a b : Str} : ((Sum.inr a : Key) = Sum.inr b) ↔ a = b := ⟨fun h => Sum.inr.inj h, fun h => by rw [h]⟩
structure Wins (H : Hp) (ws : List W3) : Prop where
  nd : (Names ws).Nodup
  nm : ∀ w ∈ ws, NameOk w.1
  at_ : ∀ w ∈ ws, H w.2.1 = some (.tup w.2.2.vs)
  gd : ∀ w ∈ ws, w.2.2.good
theorem Wins.same {H H' : Hp} {ws : List W3} (W : Wins H ws) (e : Same H H') : Wins H' ws := ⟨W.nd, W.nm, fun w hw => e _ _ (W.at_ w hw), W.gd⟩
theorem Wins.keep {b s : Addr} {H H' : Hp} {ws : List W3} (W : Wins H ws) (k : Keep b H H') (B : Bag b s H) : Wins H' ws := ⟨W.nd, W.nm, fun w hw => k.of_tup B (W.at_ w hw), W.gd⟩
theorem Wins.perm {H : Hp} {ws us : List W3} (W : Wins H ws) (p : us.Perm ws) : Wins H us := ⟨(List.Perm.map (fun x : W3 => x.1) p).nodup_iff.mpr W.nd, fun w hw => W.nm w (p.mem_iff.mp hw), fun w hw => W.at_ w (p.mem_iff.mp hw), fun w hw => W.gd w (p.mem_iff.mp hw)⟩
theorem Wins.sub {H : Hp} {ws us : List W3} (W : Wins H ws) (n : (Names us).Nodup) (h : ∀ w ∈ us, w ∈ ws) : Wins H us := ⟨n, fun w hw => W.nm w (h w hw), fun w hw => W.at_ w (h w hw), fun w hw => W.gd w (h w hw)⟩
def fldW (d : Addr) : List (Str × V) := [("windows", .ref d)]
structure DeskAt (C : Addr) (H : Hp) (p : Addr) (ws : List W3) : Prop where
  ex : ∃ dx d, H p = some (.ins C dx (fldW d)) ∧ H d = some (.dK (ws.map kvOf))
  win : Wins H ws
  so : (Names ws).Pairwise leS
theorem DeskAt.same {C : Addr} {H H' : Hp} {p : Addr} {ws : List W3} (D : DeskAt C H p ws) (e : Same H H') : DeskAt C H' p ws := by
  obtain ⟨⟨dx, d, h1, h2⟩, h3, h4⟩ := D
  exact ⟨⟨dx, d, e _ _ h1, e _ _ h2⟩, h3.same e, h4⟩
theorem DeskAt.keep {C b s : Addr} {H H' : Hp} {p : Addr} {ws : List W3} (D : DeskAt C H p ws) (k : Keep b H H') (B : Bag b s H) : DeskAt C H' p ws := by
  obtain ⟨⟨dx, d, h1, h2⟩, h3, h4⟩ := D
  obtain ⟨ys, hb⟩ := B.hb
  exact ⟨⟨dx, d, k _ _ (ne_of h1 hb (by intro z; cases z)) h1, k.dK hb h2⟩, h3.keep k B, h4⟩
theorem good_scaled {c x y x2 y2 : Int} (c0 : 1 ≤ c) (c1 : c ≤ 100000000) (a1 : -4 ≤ x) (a2 : x ≤ 4) (a3 : -4 ≤ y) (a4 : y ≤ 4) (a5 : x < x2) (a6 : x2 ≤ x + 4) (a7 : y < y2) (a8 : y2 ≤ y + 4) : (R.mk (c * x) (c * y) (c * x2) (c * y2)).good := by
  have up : ∀ z : Int, z ≤ 8 → c * z ≤ 1000000000 := fun z hz => by
    have h1 : c * z ≤ c * 8 := Int.mul_le_mul_of_nonneg_left hz (by omega)
    omega
  have lo : ∀ z : Int, -4 ≤ z → -1000000000 ≤ c * z := fun z hz => by
    have h1 : c * (-4) ≤ c * z := Int.mul_le_mul_of_nonneg_left hz (by omega)
    omega
  have lt : ∀ u v : Int, u < v → c * u < c * v := fun u v h => Int.mul_lt_mul_of_pos_left h (by omega)
  exact ⟨lo x a1, up x (by omega), lo y a3, up y (by omega), lo x2 (by omega), up x2 (by omega), lo y2 (by omega), up y2 (by omega), lt _ _ a5, lt _ _ a7⟩
end RK
namespace PySem.W
open PySem PySem.Spec PySem.Calls PyProof.Rows
abbrev kld_fn (name qual : Str) (params : Arguments) (body : Expr) (scope : Scope) (cl : List (Str × Addr)) (dV pm cdv ct : Value) : FuncData := { kla_fn name qual params body scope cl pm cdv ct with defaults := dV }
abbrev kld_obj (name qual : Str) (params : Arguments) (body : Expr) (scope : Scope) (clos : List (Str × Addr)) (dV pm cdv ctv : Value) : Obj :=
  { cls := .type "function", data := .func (kld_fn name qual params body scope clos dV pm cdv ctv) }
section
variable {M : Model} {A : Around} {E : Value → Shared → Prop} {s : Shared} {name qual : Str} {params : Arguments} {body : Expr} {scope : Scope} {env : Env} {c P : Addr} {ps : Array Value} {pos : Pos} {firstLine : Nat} {mg : Str → Option Value}
  {clos : List (Str × Addr)} {Q : Value → Shared → Prop} {dV : Value}
theorem kld_tail (hcl : closureFor scope env = pure clos) (hge0 : env.globals = mainGlobals) (hg : s.heap.Ns mainGlobals mg) (hcode : env.code = .ref c) (C : CodeHd s.heap c P) (hP : s.heap.get? P = some (tabObj ps)) (ht : TriplesOk ps.toList)
    (hnf : codeAmong pos ps.toList = none) (hgP : mainGlobals ≠ P) (hb : s.heap.BuiltinsAt mg P)
    (h : ∀ c' ctv h' tk, Heap.ExtBut P s.heap h' → s.heap.objs.size ≤ c' → c' < h'.objs.size → h'.CodeRec (.ref c') qual → h'.get? P = some (tabObj (ps ++ #[rawInt pos.line, rawInt pos.col, .ref c'])) →
      Q (.ref h'.objs.size) { s with heap := h'.push (kld_obj name qual params body scope clos dV ((mg "__name__").getD .none) (.ref c') ctv), toks := tk }) :
    wpAny M A (makeTail name qual params (.expr body) scope env dV .none none pos firstLine) Q E s := by
  obtain ⟨bm, ob, hbm, hne0, _, hneP, hbo, hcls, hdict, hdata⟩ := hb
  unfold makeTail
  rw [hcl, hge0]
  refine wpAny_bind (wpAny_pure ?_)
  cases clos with
  | nil =>
    simp only [List.isEmpty_nil, if_true]
    refine wpAny_bind (wpAny_pure ?_)
    refine wpAny_bind (wpAny_functionCodeX hcode (C.code hP ht) (C.tab hP) hnf fun c' h' tk hx hge hlt _ hrec htb _ => ?_)
    have hg' := hg.extBut hx hgP
    refine wpAny_bind (wpAny_builtinsFor hg' hbm hne0 (hx _ _ hneP hbo) hcls hdict hdata ?_)
    refine wpAny_bind (wpAny_nsGet hg' ?_)
    exact wpAny_bind (wpAny_pure (wpAny_newObj_type (h c' .none h' tk hx hge hlt hrec htb.2) (by size_fits)))
  | cons q r =>
    simp only [List.isEmpty_cons, Bool.false_eq_true, if_false]
    refine wpAny_bind (wpAny_newTextTuple ?_)
    refine wpAny_bind (wpAny_functionCodeX hcode ((C.keeps fun b o e => Heap.get?_push_of_some _ e).code (Heap.get?_push_of_some _ hP) ht) ((C.keeps fun b o e => Heap.get?_push_of_some _ e).tab (Heap.get?_push_of_some _ hP)) hnf fun c' h' tk hx hge hlt _ hrec htb _ => ?_)
    have hg' := (hg.push _).extBut hx hgP
    have hx' : Heap.ExtBut P s.heap h' := fun b o hb' e => hx b o hb' (Heap.get?_push_of_some _ e)
    have hge' : s.heap.objs.size ≤ c' := Nat.le_trans (by rw [Heap.size_push]; omega) hge
    refine wpAny_bind (wpAny_builtinsFor hg' hbm hne0 (hx' _ _ hneP hbo) hcls hdict hdata ?_)
    refine wpAny_bind (wpAny_nsGet hg' ?_)
    exact wpAny_bind (wpAny_pure (wpAny_newObj_type (h c' _ h' tk hx' hge' hlt hrec htb.2) (by size_fits)))
theorem kld_tailHit {cv : Value} (hcl : closureFor scope env = pure clos) (hge0 : env.globals = mainGlobals) (hg : s.heap.Ns mainGlobals mg) (hcode : env.code = .ref c) (C : CodeHd s.heap c P) (hP : s.heap.get? P = some (tabObj ps)) (ht : TriplesOk ps.toList)
    (hf : codeAmong pos ps.toList = some cv) (hb : s.heap.BuiltinsAt mg P)
    (h : ∀ (ctv : Value) (h' : Heap) (tk : Tok), (∀ b o, s.heap.get? b = some o → h'.get? b = some o) → s.heap.objs.size ≤ h'.objs.size →
      Q (.ref h'.objs.size) { s with heap := h'.push (kld_obj name qual params body scope clos dV ((mg "__name__").getD .none) cv ctv), toks := tk }) :
    wpAny M A (makeTail name qual params (.expr body) scope env dV .none none pos firstLine) Q E s := by
  obtain ⟨bm, ob, hbm, hne0, _, hneP, hbo, hcls, hdict, hdata⟩ := hb
  unfold makeTail
  rw [hcl, hge0]
  refine wpAny_bind (wpAny_pure ?_)
  cases clos with
  | nil =>
    simp only [List.isEmpty_nil, if_true]
    refine wpAny_bind (wpAny_pure ?_)
    refine wpAny_bind (wpAny_functionCode_hit hcode (C.code hP ht) hf ?_)
    refine wpAny_bind (wpAny_builtinsFor hg hbm hne0 hbo hcls hdict hdata ?_)
    refine wpAny_bind (wpAny_nsGet hg ?_)
    exact wpAny_bind (wpAny_pure (wpAny_newObj_type (h .none s.heap s.toks (fun _ _ e => e) (Nat.le_refl _)) (by size_fits)))
  | cons q r =>
    simp only [List.isEmpty_cons, Bool.false_eq_true, if_false]
    refine wpAny_bind (wpAny_newTextTuple ?_)
    refine wpAny_bind (wpAny_functionCode_hit hcode ((C.keeps fun b o e => Heap.get?_push_of_some _ e).code (Heap.get?_push_of_some _ hP) ht) hf ?_)
    refine wpAny_bind (wpAny_builtinsFor (hg.push _) hbm hne0 (Heap.get?_push_of_some _ hbo) hcls hdict hdata ?_)
    refine wpAny_bind (wpAny_nsGet (hg.push _) ?_)
    have hsz : ∀ oT : Obj, s.heap.objs.size ≤ (s.heap.push oT).objs.size := fun oT => by rw [Heap.size_push]; omega
    exact wpAny_bind (wpAny_pure (wpAny_newObj_type (h _ _ s.toks (fun b o e => Heap.get?_push_of_some _ e) (hsz _)) (by size_fits)))
theorem kld_eval {d : Sem Value} (hdef : defaultsOf params env = ([d], []))
    (h : wpAny M A d (fun v s1 => wpAny M A (makeTail "<lambda>" (env.qual ++ "<lambda>") params (.expr body) scope env (.ref s1.heap.objs.size) .none none pos pos.line) Q E { s1 with heap := s1.heap.push { cls := .type "tuple", data := .seq [v].toArray } }) E s) :
    wpAny M A (eval (.Lambda params body scope pos) env) Q E s := by
  rw [arm_eval_Lambda, hdef]
  show wpAny M A (do let dv ← evalAll [d]; let kdv ← holding dv (evalAllOpt []); makeFunction "<lambda>" (env.qual ++ "<lambda>") params (.expr body) scope env dv kdv [] pos pos.line) Q E s
  refine wpAny_bind ?_
  rw [evalAll]
  refine wpAny_bind (wpAny_mono h (fun v s1 h1 => ?_) fun _ _ e => e)
  refine wpAny_bind (wpAny_holding (wpAny_pure (wpAny_pure (wpAny_bind (wpAny_holding (wpAny_pure ?_))))))
  rw [makeFunction_eq]
  simp only [List.zip_nil_right, List.filterMap_nil, List.isEmpty_nil, if_true, pure_bind, List.isEmpty_cons, Bool.false_eq_true, if_false]
  exact wpAny_bind (wpAny_newTextTuple h1)
end
end PySem.W
namespace RK
open PySem PySem.Spec PyProof.Rows L2 LamX
structure LamD (N : List Str) (sc scope : Scope) : Prop where
  kind : scope.kind = .function
  co : scope.isCoroutine = false
  gen : scope.isGenerator = false
  own : ∀ y ∈ scope.names, y.2 ≠ .cell ∧ (y.2 = .local → y.1 ∉ N)
  free : ∀ y ∈ scope.names, y.2 = .free → sc.names.lookup y.1 = some .cell ∨ sc.names.lookup y.1 = some .free
def lamDB (N : List Str) (sc scope : Scope) : Bool :=
  decide (scope.kind = .function) && !scope.isCoroutine && !scope.isGenerator && scope.names.all fun y => !decide (y.2 = .cell) && (!decide (y.2 = .local) || !decide (y.1 ∈ N)) && (!decide (y.2 = .free) || decide (sc.names.lookup y.1 = some .cell) || decide (sc.names.lookup y.1 = some .free))
theorem lamD_by {N : List Str} {sc scope : Scope} (h : lamDB N sc scope = true) : LamD N sc scope := by
  unfold lamDB at h
  simp only [Bool.and_eq_true, Bool.or_eq_true, Bool.not_eq_true', decide_eq_true_eq, decide_eq_false_iff_not, List.all_eq_true] at h
  obtain ⟨⟨⟨h1, h2⟩, h3⟩, h4⟩ := h
  refine ⟨h1, h2, h3, fun y hy => ⟨(h4 y hy).1.1, fun e => ?_⟩, fun y hy e => ?_⟩
  · rcases (h4 y hy).1.2 with z | z
    · exact absurd e z
    · exact z
  · rcases (h4 y hy).2 with (z | z) | z
    · exact absurd e z
    · exact .inl z
    · exact .inr z
theorem LamD.has {X : Cx} {N : List Str} {scope : Scope} (L : LamD N X.env.scope scope) (ok : X.Ok) : ∀ y ∈ scope.names, y.2 = .free → ∃ c, X.env.cells.lookup y.1 = some c := fun y hy e => by
  rcases L.free y hy e with k | k
  · exact ok.has _ (.inl k)
  · exact ok.has _ (.inr k)
section
variable {X : Cx} {pins : List (Addr × Obj)} {σ : L2.St} {H HZ : Hp} {s s1 : Shared}
theorem lamD_make {T : List (Addr × Str)} {c P : Addr} {params : Arguments} {body e0 : Expr} {scope : Scope} {pos : Pos} {E : Value → Shared → Prop} {Q : Value → Shared → Prop} (I : Inv X pins σ H s) (TB : TabB X.base X.mg c P) (hcode : X.env.code = .ref c)
    (hm : (P, X.env.qual ++ "<lambda>") ∈ T) (hu : ∀ p ∈ T, p.1 = P → p.2 = X.env.qual ++ "<lambda>") (hT : Tabs T H) (hdef : defaultsOf params X.env = ([eval e0 X.env], []))
    (he0 : ∀ (s : Shared) (Q : Value → Shared → Prop), (∀ t, Q (.int 0 t) { s with toks := s.toks + 1 } ∧ Q (.int 0 t) s) → wpAny (model X.prog X.w) X.A (eval e0 X.env) Q E s) (hfree : ∀ y ∈ scope.names, y.2 = .free → ∃ c, X.env.cells.lookup y.1 = some c)
    (h : ∀ (f c' td : Addr) (t0 : Tok) (pm ctv : Value) (H1 : Hp) (s' : Shared), Inv X pins σ H1 s' → ExtN H H1 → Tabs T H1 →
      s'.heap.get? f = some (PySem.W.kld_obj "<lambda>" (X.env.qual ++ "<lambda>") params body scope (cloFrom X.env.cells scope.names []) (.ref td) pm (.ref c') ctv) → H1 f = none → f ∉ frs X.stack → H1 c' = some (CodeO c' (X.env.qual ++ "<lambda>")) →
      s'.heap.get? td = some { cls := .type "tuple", data := .seq #[.int 0 t0] } → H1 td = none → td ∉ frs X.stack → Q (.ref f) s') :
    wpAny (model X.prog X.w) X.A (eval (.Lambda params body scope pos) X.env) Q E s := by
  have fin : ∀ (s : Shared) (t0 : Tok), Inv X pins σ H s → wpAny (model X.prog X.w) X.A (makeTail "<lambda>" (X.env.qual ++ "<lambda>") params (.expr body) scope X.env (.ref s.heap.objs.size) .none none pos pos.line) Q E { s with heap := s.heap.push { cls := .type "tuple", data := .seq [Value.int 0 t0].toArray } } := by
    intro s t0 I
    obtain ⟨td, etd⟩ : ∃ td, td = s.heap.objs.size := ⟨_, rfl⟩
    have kp : ∀ b o, s.heap.get? b = some o → (s.heap.push { cls := .type "tuple", data := .seq [Value.int 0 t0].toArray }).get? b = some o := fun b o e => Heap.get?_push_of_some _ e
    have htd : (s.heap.push { cls := .type "tuple", data := .seq [Value.int 0 t0].toArray }).get? td = some { cls := .type "tuple", data := .seq #[.int 0 t0] } := by
      rw [etd]
      exact Heap.get?_push_size _ rfl
    have ntd : H td = none := by
      rw [etd]
      exact I.hok.fresh (Nat.le_refl _)
    have nofr : ∀ f, s.heap.objs.size ≤ f → f ∉ frs X.stack := fun f hf z => by
      rcases List.mem_cons.mp (I.stkSub _ z) with e | e
      · have h1 := I.lt
        rw [← e] at h1
        exact Nat.lt_irrefl _ (Nat.lt_of_lt_of_le h1 hf)
      · exact I.nofs hf e
    have tfr : td ∉ frs X.stack := nofr td (by rw [etd]; exact Nat.le_refl _)
    have I0 : Inv X pins σ H { s with heap := s.heap.push { cls := .type "tuple", data := .seq [Value.int 0 t0].toArray } } := I.kept kp
    rw [← etd]
    generalize hs0 : ({ s with heap := s.heap.push { cls := .type "tuple", data := .seq [Value.int 0 t0].toArray } } : Shared) = s0 at I0
    have htd : s0.heap.get? td = some { cls := .type "tuple", data := .seq #[.int 0 t0] } := by rw [← hs0]; exact htd
    clear hs0
    obtain ⟨ps, hP, ht, ha⟩ := hT _ hm
    have bP : s0.heap.BuiltinsAt X.mg P := TB.bm.keeps I0.bk
    have hP' : s0.heap.get? P = some { cls := .none, data := .fields ps } := I0.hok P _ hP
    have tP : td ≠ P := (ne_of_none hP ntd).symm
    have nofr0 : ∀ f, s0.heap.objs.size ≤ f → f ∉ frs X.stack := fun f hf z => by
      rcases List.mem_cons.mp (I0.stkSub _ z) with e | e
      · have h1 := I0.lt
        rw [← e] at h1
        exact Nat.lt_irrefl _ (Nat.lt_of_lt_of_le h1 hf)
      · exact I0.nofs hf e
    cases hc : codeAmong pos ps.toList with
    | none =>
      refine PySem.W.kld_tail (mg := X.mg) (c := c) (P := P) (ps := ps) (closure_ok hfree) I0.ok.glob (I0.mod.glob.keeps I0.bk) hcode (TB.code.keeps I0.bk) hP' ht hc TB.gP bP fun c' ctv h' tk hx hge hlt hrec htb => ?_
      obtain ⟨c2, oc, vs, t, e2, hoc, hd, hv⟩ := hrec
      cases e2
      have hsz : s0.heap.objs.size ≤ h'.objs.size := Nat.le_trans hge (Nat.le_of_lt hlt)
      have nC : H c' = none := I0.hok.fresh hge
      have I1 := inv_table (t' := tk) (more := #[rawInt pos.line, rawInt pos.col, .ref c']) (h' := h'.push (PySem.W.kld_obj "<lambda>" (X.env.qual ++ "<lambda>") params body scope (cloFrom X.env.cells scope.names []) (.ref td) ((X.mg "__name__").getD .none) (.ref c') ctv)) I0 hP
        (fun b o hb e => Heap.get?_push_of_some _ (hx b o hb e)) (Heap.get?_push_of_some _ htb) hge ⟨oc, vs, t, Heap.get?_push_of_some _ hoc, hd, hv⟩
      have hE : ExtN H (upd (upd H P (.tbl (ps ++ #[rawInt pos.line, rawInt pos.col, .ref c']))) c' (CodeO c' (X.env.qual ++ "<lambda>"))) := fun b o e n => by
        rw [upd_ne (ne_of_none e nC), upd_ne (fun z => n ps (Option.some.inj (e.symm.trans (by rw [z]; exact hP))))]
        exact e
      have eL : (ps ++ #[rawInt pos.line, rawInt pos.col, .ref c']).toList = ps.toList ++ [rawInt pos.line, rawInt pos.col, .ref c'] := by simp
      have ctd : td ≠ c' := Nat.ne_of_lt (Nat.lt_of_lt_of_le (Heap.lt_size htd) hge)
      refine h h'.objs.size c' td t0 ((X.mg "__name__").getD .none) ctv _ _ I1 hE (fun p hp => ?_) (Heap.get?_push_size _ rfl) ?_ (nofr0 _ hsz) upd_same (Heap.get?_push_of_some _ (hx _ _ tP htd)) (by rw [upd_ne ctd, upd_ne tP]; exact ntd) tfr
      · by_cases hb : p.1 = P
        · rw [hu p hp hb, hb]
          refine ⟨_, by rw [upd_ne (ne_of_none hP nC), upd_same], by rw [eL]; exact PySem.TriplesOk_snoc _ _ _ _ ht, fun p' cv hcv => ?_⟩
          rw [eL] at hcv
          rcases among_app _ ht hcv with z | z
          · obtain ⟨c0, e1, e2⟩ := ha p' cv z
            exact ⟨c0, e1, hE _ _ e2 codeO_ne⟩
          · exact ⟨c', z, upd_same⟩
        · obtain ⟨ps', a1, a2, a3⟩ := hT p hp
          refine ⟨ps', by rw [upd_ne (ne_of_none a1 nC), upd_ne hb]; exact a1, a2, fun p' cv hcv => ?_⟩
          obtain ⟨c0, e1, e2⟩ := a3 p' cv hcv
          exact ⟨c0, e1, hE _ _ e2 codeO_ne⟩
      · have n1 : h'.objs.size ≠ c' := Nat.ne_of_gt hlt
        have n2 : h'.objs.size ≠ P := Nat.ne_of_gt (Nat.lt_of_lt_of_le (Heap.lt_size hP') hsz)
        rw [upd_ne n1, upd_ne n2]
        exact I0.hok.fresh hsz
    | some cv =>
      obtain ⟨c', e, hco⟩ := ha pos cv hc
      subst e
      refine PySem.W.kld_tailHit (mg := X.mg) (c := c) (P := P) (ps := ps) (closure_ok hfree) I0.ok.glob (I0.mod.glob.keeps I0.bk) hcode (TB.code.keeps I0.bk) hP' ht hc bP fun ctv h' tk hx hsz => ?_
      have I1 : Inv X pins σ H { s0 with heap := h'.push (PySem.W.kld_obj "<lambda>" (X.env.qual ++ "<lambda>") params body scope (cloFrom X.env.cells scope.names []) (.ref td) ((X.mg "__name__").getD .none) (.ref c') ctv), toks := tk } := I0.kept fun b o e => Heap.get?_push_of_some _ (hx b o e)
      exact h h'.objs.size c' td t0 ((X.mg "__name__").getD .none) ctv H _ I1 (ExtN.refl H) hT (Heap.get?_push_size _ rfl) (I0.hok.fresh hsz) (nofr0 _ hsz) hco (Heap.get?_push_of_some _ (hx _ _ htd)) ntd tfr
  exact PySem.W.kld_eval hdef (he0 s _ fun t0 => ⟨fin _ t0 (I.tok _), fin _ t0 I⟩)
end
end RK
namespace RK
open PySem PySem.Spec PyProof.Rows L2 LamX
section
variable {X : Cx} {pins : List (Addr × Obj)} {σ : L2.St} {H HZ : Hp} {s s1 : Shared}
theorem lamD_start {A : Around} {outer : List Env} {E : XK} {scope : Scope} {f c' : Addr} {h₁ : Heap} {tk : Nat} {mm : Str → Option Value} (I : Inv X pins σ H s) (L : LamD X.N X.env.scope scope) (e0 : Env0 X.prog X.w X.K X.mg X.base A outer s1 HZ) (hd : A.handled = none)
    (un : Un (frs X.stack) [] H HZ s.heap s1.heap) (hns : h₁.Ns s1.heap.objs.size mm) (kp : ∀ b o, s1.heap.get? b = some o → h₁.get? b = some o) :
    Inv (lamCx X A outer s1 HZ E scope f c') [] σ HZ { s1 with heap := h₁, toks := tk } := by
  have hfree := L.has I.ok
  have cm : ∀ {y c}, (cloFrom X.env.cells scope.names []).lookup y = some c → X.env.cells.lookup y = some c := fun {y c} e => by
    rcases cloFrom_mem (PySem.mem_of_lookup e) with hm | ⟨h1, h2⟩
    · cases hm
    · obtain ⟨c1, hc⟩ := hfree _ h1 rfl
      have hc : X.env.cells.lookup y = some c1 := hc
      have e2 : c = c1 := by
        rw [h2, hc] <;> rfl
      rw [e2]
      exact hc
  have look : ∀ {y}, scope.names.lookup y = some .free → ∃ c, (cloFrom X.env.cells scope.names []).lookup y = some c := fun {y} hl => by
    have hy : (y, NameKind.free) ∈ scope.names := PySem.mem_of_lookup hl
    exact mem_lookup (cloFrom_has (cells := X.env.cells) (acc := []) hy)
  have cellK : ∀ {c : Addr} {v : Option Value}, H c = none → s.heap.IsCell c v → h₁.IsCell c v := fun {c v} n ⟨o, ho, hd⟩ => by
    obtain ⟨sl, q⟩ := un.any ho n (by simp)
    exact ⟨_, kp _ _ q, hd⟩
  have noA : ∀ b : Addr, b ∉ (lamCx X A outer s1 HZ E scope f c').ex := fun b z => absurd (show b ∈ ([] : List Addr) from z) (by simp)
  refine ⟨⟨e0.mod, L.kind, rfl, rfl, Nat.le_refl _, fun y z c e1 e2 => I.ok.inj y z c (cm e1) (cm e2), fun y hy => ?_, fun y c z _ => ?_, fun _ => hd, Around.frames_deeper e0.frames, .inr ⟨rfl, rfl⟩, fun b z => absurd z (noA b), e0.bs, e0.bsz, fun b _ _ => noA b,
      fun b z => absurd z (noA b), e0.funs, e0.frf⟩,
    rfl, e0.bare, Un.kept kp, ⟨_, hns, fun i y v e1 e2 e3 => ?_⟩, fun y c e => ?_, e0.hok.fresh (Nat.le_refl _), fun y c e => ?_, fun q hq => absurd (show q ∈ ([] : List (Addr × Obj)) ++ [] from hq) (by simp), e0.hok.kept kp, I.len⟩
  · have hy : scope.names.lookup y = some .cell ∨ scope.names.lookup y = some .free := hy
    rcases hy with hy | hy
    · exact absurd rfl (L.own _ (PySem.mem_of_lookup hy)).1
    · exact look hy
  · have z : false = true := z
    cases z
  · have e3 : Vis scope y := e3
    have e1 : X.N[i]? = some y := e1
    rcases e3 with k | k | k
    · exact absurd (List.mem_of_getElem? e1) ((L.own _ (PySem.mem_of_lookup k)).2 rfl)
    · exact absurd rfl (L.own _ (PySem.mem_of_lookup k)).1
    · obtain ⟨m, hn, hl⟩ := I.loc
      have hvis : Vis X.env.scope y := (L.free _ (PySem.mem_of_lookup k) rfl).elim (fun k => .inr (.inl k)) (fun k => .inr (.inr k))
      obtain ⟨w', r, q⟩ := hl i y v e1 e2 hvis
      obtain ⟨c2, h2⟩ := look k
      refine ⟨w', r, .inr ⟨.inr k, c2, h2, ?_⟩⟩
      have c1 := cm h2
      rcases q with ⟨k', _⟩ | ⟨_, c3, e', z⟩
      · have k' : X.env.scope.names.lookup y = some .local := k'
        rcases L.free _ (PySem.mem_of_lookup k) rfl with k2 | k2 <;> rw [show X.env.scope.names.lookup y = _ from k2] at k' <;> cases k'
      · rw [c1] at e'
        cases e'
        exact cellK (I.freeC y _ c1) z
  · obtain ⟨w', z⟩ := I.cell y c (cm e)
    exact ⟨w', cellK (I.freeC y c (cm e)) z⟩
  · obtain ⟨v, o, ho, hd⟩ := I.cell y c (cm e)
    exact un.free c o ho (I.freeC y c (cm e)) (by simp)
theorem pe_actD {CXg : CXT} {Eg : XK} {Ng : List Str} {qg : Str} {sg : Scope} {g f c' td : Addr} {t0 : Tok} {cdg pm ctv : Value} {params : Arguments} {body : Expr} {scope : Scope} {k i : Nat} {a a0 : Str} {pn : List (Addr × Obj)} {xe : Value → Shared → Prop} {W : WX} {E : XK} {tb : TE} {p1 p2 : Pos}
    (I : Inv X pins σ H s) (L : LamD X.N X.env.scope scope) (hf : s.heap.get? f = some (PySem.W.kld_obj "<lambda>" (X.env.qual ++ "<lambda>") params body scope (cloFrom X.env.cells scope.names []) (.ref td) pm (.ref c') ctv)) (hfn : H f = none) (hfr : f ∉ frs X.stack)
    (htd : s.heap.get? td = some { cls := .type "tuple", data := .seq #[.int 0 t0] }) (ntd : H td = none) (tfr : td ∉ frs X.stack)
    (hbind : ∃ kk, bindArgs (PySem.W.kld_fn "<lambda>" (X.env.qual ++ "<lambda>") params body scope (cloFrom X.env.cells scope.names []) (.ref td) pm (.ref c') ctv) ⟨[], []⟩ = seqItems? (.ref td) >>= kk ∧ kk (some #[.int 0 t0]) = pure [(a0, .int 0 t0)]) (hl0 : scope.names.lookup a0 = some .local)
    (tk : Takes ((cxOf CXg X.prog X.w X.K X.mg X.base Ng qg sg g cdg X.A X.stack s H Eg).tr pn xe) W) (hW : ∀ cls d σ' H', E cls d H' → W cls d σ' H') (hr : Room (k + 1) (X.A.deeper (envOfC qg sg s.heap.objs.size g cdg)))
    (hbody : ∀ (A : Around) (outer : List Env) (s : Shared) (H : Hp), Room k (A.deeper (lamEnv X scope s.heap.objs.size f c')) → PE (lamCx X A outer s H E scope f c') body tb)
    (hN : Ng[i]? = some a) (hv : Vis sg a) (hd : (a == ("__debug__" : Str)) = false := by decide) (hcd : (a == ("__classdict__" : Str)) = false := by decide) :
    PE ((cxOf CXg X.prog X.w X.K X.mg X.base Ng qg sg g cdg X.A X.stack s H Eg).tr pn xe) (.Call (.Name a p1) [] [] p2)
      (fun σZ HZ Q => σZ[i]? = some (some (.ref f)) ∧ HZ c' = some (CodeO c' (X.env.qual ++ "<lambda>")) ∧ tb σ HZ Q) := by
  refine ⟨fun pinsZ sZ σZ HZ Q IZ h => ?_⟩
  obtain ⟨hs, hc, ht⟩ := h
  refine wpAny_Call_Name_kw (thn ((pe_var (pos := p1) (i := i) hN hv hd hcd).run pinsZ sZ σZ HZ (fun v H1 => v = .ref f ∧ H1 = HZ) IZ ⟨.ref f, hs, rfl, rfl⟩) fun u s1 ⟨v, H1, I1, r1, q1⟩ => ?_)
  obtain ⟨ev, eH⟩ := q1
  subst ev
  rw [eH] at I1
  obtain rfl : u = Value.ref f := r1
  have of1 : s1.heap.get? f = some (PySem.W.kld_obj "<lambda>" (X.env.qual ++ "<lambda>") params body scope (cloFrom X.env.cells scope.names []) (.ref td) pm (.ref c') ctv) := I1.base.keep f _ hf hfn hfr (fun z => nomatch (show f ∈ ([] : List Addr) from z))
  have ot1 : s1.heap.get? td = some { cls := .type "tuple", data := .seq #[.int 0 t0] } := I1.base.keep td _ htd ntd tfr (fun z => nomatch (show td ∈ ([] : List Addr) from z))
  refine PySem.W.callWith_F0 ⟨_, _, _, _, of1⟩ ?_
  have un : Un (frs X.stack) [] H HZ s.heap s1.heap := I1.base
  obtain ⟨⟨oc, vs, t, hoc, hdc, hvc⟩, _, _⟩ := I1.hok c' _ hc
  have rc : codeAny (model X.prog X.w) (X.A.deeper (envOfC qg sg s.heap.objs.size g cdg)) (.call (.ref f) ⟨[], []⟩) (CR (L2.CX X.prog X.w) (envOfC qg sg s.heap.objs.size g cdg :: X.stack) X.prog X.w HZ s1 Q E) s1 := by
    refine PySem.W.kla_callFunE hr.depth of1 rfl L.co L.gen rfl ⟨c', oc, vs, t, rfl, hoc, hdc, hvc⟩ ?_
    obtain ⟨kk, hb1, hb2⟩ := hbind
    rw [hb1]
    refine wpAny_bind (wpAny_seqItems ot1 rfl ?_)
    rw [hb2]
    refine wpAny_pure (wpAny_newFunctionEnv (fun y hy => (L.own y hy).1) (fun y hy => ?_) (fun h₁ hns hsb => ⟨I1.nolimit.fresh _ hsb, ?_⟩) L.kind)
    · have : y = (a0, Value.int 0 t0) := by simpa using hy
      rw [this]
      exact hl0
    show codeAny _ _ (.expr body (lamEnv X scope s1.heap.objs.size f c')) _ _
    have kp : ∀ b o, s1.heap.get? b = some o → h₁.get? b = some o := fun b o e => hsb.extBut b o (Nat.ne_of_lt (Heap.lt_size e)) (Heap.get?_push_of_some _ e)
    have J : Inv (lamCx X (X.A.deeper (envOfC qg sg s.heap.objs.size g cdg)) (envOfC qg sg s.heap.objs.size g cdg :: X.stack) s1 HZ E scope f c') [] σ HZ { s1 with heap := h₁, toks := s1.toks + ([(a0, Value.int 0 t0)] : List (Str × Value)).length } :=
      lamD_start I L I1.env0 hr.hd un hns kp
    refine PySem.W.kla_codeExpr (wpAny_mono ((hbody _ _ s1 HZ (hr.deeper _)).run [] _ _ HZ Q J ht) (fun v s' hq => ?_) fun e s' hq => hq)
    obtain ⟨w', H', J', rv, q⟩ := hq
    exact ⟨w', H', J'.os, J'.bare, J'.base, J'.hok, rv, q⟩
  have hx : Passes (L2.CX X.prog X.w) ((cxOf CXg X.prog X.w X.K X.mg X.base Ng qg sg g cdg X.A X.stack s H Eg).tr pn xe) E := passes_call tk hW
  refine wpAny_call (codeAny_mono rc fun r s' hq => ?_)
  cases r with
  | error e => exact hx pinsZ σZ HZ s1 e s' I1 hq
  | ok fl =>
    cases fl with
    | ret u => exact I1.after hq
    | next => exact False.elim hq
    | brk => exact False.elim hq
    | cont => exact False.elim hq
end
end RK
namespace RK
open PySem PySem.Spec PyProof.Rows L2 LamX
structure LF where
  q : Str
  params : Arguments
  body : Expr
  scope : Scope
  cl : List (Str × Addr)
  c : Addr
  td : Option Addr
  dead : Bool
def LF.ob (F : LF) (pm ctv : Value) : Obj := match F.td with
  | none => PySem.W.kla_obj "<lambda>" F.q F.params F.body F.scope F.cl pm F.c ctv
  | some td => PySem.W.kld_obj "<lambda>" F.q F.params F.body F.scope F.cl (.ref td) pm (.ref F.c) ctv
def FnL (f : Addr) (F : LF) : HO := .ext fun h => ∃ pm ctv : Value, h.get? f = some (F.ob pm ctv)
def CellO (c : Addr) (v : V) : HO := .ext fun h => ∃ u : Value, RelV v u ∧ h.IsCell c (some u)
def CellsH (N : Addr → Prop) (H : Hp) : List (Str × Addr) → List V → Prop
  | [], [] => True
  | p :: ps, v :: vs => H p.2 = some (CellO p.2 v) ∧ ¬ N p.2 ∧ CellsH N H ps vs
  | _, _ => False
theorem CellsH.pres {N N' : Addr → Prop} {H H' : Hp} (k : ∀ a o, ¬ N a → H a = some o → ¬ N' a ∧ H' a = some o) : ∀ {ps : List (Str × Addr)} {vs : List V}, CellsH N H ps vs → CellsH N' H' ps vs
  | [], [], _ => True.intro
  | p :: ps, v :: vs, ⟨h, n, r⟩ => ⟨(k _ _ n h).2, (k _ _ n h).1, CellsH.pres k r⟩
  | [], _ :: _, h => h.elim
  | _ :: _, [], h => h.elim
structure FnH (N : Addr → Prop) (H : Hp) (f : Addr) (F : LF) (vs : List V) : Prop where
  at_ : H f = some (FnL f F)
  nf : ¬ N f
  code : H F.c = some (CodeO F.c F.q)
  nc : ¬ N F.c
  td : ∀ t, F.td = some t → H t = some (.tup [.int 0]) ∧ ¬ N t
  cells : F.dead = true → CellsH N H F.cl vs
theorem FnH.pres {N N' : Addr → Prop} {H H' : Hp} {f : Addr} {F : LF} {vs : List V} (k : ∀ a o, ¬ N a → H a = some o → ¬ N' a ∧ H' a = some o) (h : FnH N H f F vs) : FnH N' H' f F vs where
  at_ := (k _ _ h.nf h.at_).2
  nf := (k _ _ h.nf h.at_).1
  code := (k _ _ h.nc h.code).2
  nc := (k _ _ h.nc h.code).1
  td := fun t e => ⟨(k _ _ (h.td t e).2 (h.td t e).1).2, (k _ _ (h.td t e).2 (h.td t e).1).1⟩
  cells := fun d => (h.cells d).pres k
end RK
namespace RK
open PySem PySem.W PySem.Spec PyProof.Rows L2 LamX
abbrev BKey := Str × Bool
def lk (k : BKey) : List Leaf := [.text k.1, .num (if k.2 then 1 else 0)]
abbrev TrKv := BKey × Addr × V
abbrev TrKs := List Leaf × Addr × Value
abbrev TrPr : List TrKv → List TrKs → Prop := Paired fun p q => q.1 = lk p.1 ∧ q.2.1 = p.2.1 ∧ RelV p.2.2 q.2.2
def TrE (G : Program × World) (a : Addr) (xs : List TrKv) : Heap → Prop := fun h => xs.length ≤ sizeLine ∧ (a == sysModules) = false ∧ ∃ ys : List TrKs, TrPr xs ys ∧
  ∃ o es ep, h.get? a = some o ∧ o.ExactDict ∧ o.data = .dict es ep ∧ es.toList = ys.map (entryOfKey (tupleKind (leafKind G.1 G.2))) ∧ (ys.map (·.1)).Nodup
def TrO (G : Program × World) (a : Addr) (xs : List TrKv) : HO := .ext (TrE G a xs)
def IsTr (φ : Heap → Prop) : Prop := ∃ G a xs, φ = TrE G a xs
theorem no_tr {φ : Heap → Prop} (h : Heap) (p : φ h) (n : ∀ a o, h.get? a = some o → o.cls ≠ .type "dict") : ¬ IsTr φ := fun ⟨G, a, xs, e⟩ => by
  rw [e] at p
  obtain ⟨_, _, _, _, o, _, _, h1, h2, _⟩ := p
  exact n a o h1 h2.1
theorem get_rep {n a : Nat} {ob o : Obj} (h : ({ objs := Array.replicate n ob } : Heap).get? a = some o) : o = ob := by
  unfold Heap.get? at h
  split at h
  · cases h
  · have : (Array.replicate n ob)[a]? = some o := h
    rw [Array.getElem?_replicate] at this
    split at this
    · exact (Option.some.inj this).symm
    · cases this
theorem rep_get {n : Nat} {ob : Obj} (nf : ob.data ≠ .freed) : ({ objs := Array.replicate (n + 1) ob } : Heap).get? n = some ob := by
  have e : (Array.replicate (n + 1) ob)[n]? = some ob := by rw [Array.getElem?_replicate, if_pos (Nat.lt_succ_self n)]
  unfold Heap.get?
  show (match (Array.replicate (n + 1) ob)[n]? with | some { data := Data.freed, .. } => none | o => o) = some ob
  rw [e]
  obtain ⟨c, d, da, sl⟩ := ob
  cases da <;> first | rfl | exact absurd rfl nf
theorem codeO_tr (c : Addr) (q : Str) : ¬ IsTr (fun h => ∃ (oc : Obj) (vs : Array Value) (t : Tok), h.get? c = some oc ∧ oc.data = .fields vs ∧ vs[1]? = some (.str q t)) := by
  refine no_tr { objs := Array.replicate (c + 1) { cls := .none, data := .fields #[.none, .str q default] } } ⟨_, _, default, rep_get (fun z => nomatch z), rfl, rfl⟩ fun a o e => ?_
  rw [get_rep e]
  exact fun z => nomatch z
section
variable {P : Program} {w : World} {H : Hp} {h : Heap} {a : Addr} {xs : List TrKv}
end
section
variable {X : Cx} {pins : List (Addr × Obj)} {σ : L2.St} {H : Hp} {s : Shared} {a b : Addr} {xs : List TrKv} {k : BKey}
abbrev Cx.G (X : Cx) : Program × World := (X.prog, X.w)
end
end RK
namespace DL
open PySem PySem.Spec PyProof.Rows L2 RK
abbrev GdF := Unit → Program × World
inductive D where
  | non | bl (b : Bool) | int (i : Int) | str (x : Str)
  | lst (xs : List D) | tup (xs : List D) | ktp (xs : List D)
  | dic (kvs : List (Key × D)) | dct (kvs : List (List Key × D))
  | obj (C : Addr) (fs : List (Str × D))
  | bag
  | fn (F : LF) (ds : List D)
  | tr (G : GdF) (kvs : List (BKey × Option BKey))
instance : Inhabited D := ⟨.non⟩
def TrV (N : Addr → Prop) (H : Hp) : V → Option BKey → Prop
  | .non, none => True
  | .ref t, some k => H t = some (.tup [.str k.1, .bl k.2]) ∧ ¬ N t
  | _, _ => False
abbrev TrR (N : Addr → Prop) (H : Hp) : List TrKv → List (BKey × Option BKey) → Prop := Paired fun p q => p.1 = q.1 ∧ (H p.2.1 = some (.tup [.str p.1.1, .bl p.1.2]) ∧ ¬ N p.2.1) ∧ TrV N H p.2.2 q.2
theorem TrV.pres {N N' : Addr → Prop} {H H' : Hp} (k : ∀ a o, ¬ N a → H a = some o → ¬ N' a ∧ H' a = some o) : ∀ {v : V} {d : Option BKey}, TrV N H v d → TrV N' H' v d
  | .non, none, _ => True.intro
  | .ref t, some _, h => ⟨(k t _ h.2 h.1).2, (k t _ h.2 h.1).1⟩
  | .non, some _, h => h.elim
  | .ref _, none, h => h.elim
  | .bl _, _, h => h.elim
  | .int _, _, h => h.elim
  | .str _, _, h => h.elim
theorem TrR.pres {N N' : Addr → Prop} {H H' : Hp} (k : ∀ a o, ¬ N a → H a = some o → ¬ N' a ∧ H' a = some o) {xs : List TrKv} {kvs : List (BKey × Option BKey)} (h : TrR N H xs kvs) : TrR N' H' xs kvs :=
  Paired.mapP h fun p q z => ⟨z.1, ⟨(k _ _ z.2.1.2 z.2.1.1).2, (k _ _ z.2.1.2 z.2.1.1).1⟩, z.2.2.pres k⟩
theorem TrV.tup {N : Addr → Prop} {H H' : Hp} (k : ∀ a vs, H a = some (.tup vs) → H' a = some (.tup vs)) : ∀ {v : V} {d : Option BKey}, TrV N H v d → TrV N H' v d
  | .non, none, _ => True.intro
  | .ref t, some _, h => ⟨k t _ h.1, h.2⟩
  | .non, some _, h => h.elim
  | .ref _, none, h => h.elim
  | .bl _, _, h => h.elim
  | .int _, _, h => h.elim
  | .str _, _, h => h.elim
theorem TrR.tup {N : Addr → Prop} {H H' : Hp} (k : ∀ a vs, H a = some (.tup vs) → H' a = some (.tup vs)) {xs : List TrKv} {kvs : List (BKey × Option BKey)} (h : TrR N H xs kvs) : TrR N H' xs kvs :=
  Paired.mapP h fun p q z => ⟨z.1, ⟨k _ _ z.2.1.1, z.2.1.2⟩, z.2.2.tup k⟩
abbrev Wd := Option (Addr × Addr × List (Addr × Str))
def Wd.own : Wd → Addr → Prop
  | none, _ => False
  | some (b, s, T), a => a = b ∨ a = s ∨ ∃ p ∈ T, p.1 = a
def Wd.ok : Wd → Hp → Prop
  | none, _ => True
  | some (b, s, T), H => Bag b s H ∧ LamX.Tabs T H ∧ (T ≠ [] → ∀ a ps, H a = some (.tbl ps) → ∃ p ∈ T, p.1 = a)
def Nt : HO → Prop
  | .tup _ => False
  | .ext φ => IsTr φ
  | _ => True
abbrev HoN := {o : HO // Nt o}
def Plo : HO → Prop
  | .tup _ => False
  | .ext φ => IsTr φ
  | .tbl _ => False
  | _ => True
theorem Plo.nt : ∀ {o : HO}, Plo o → Nt o := fun {o} h => by cases o <;> first | exact True.intro | exact h
theorem Plo.ntb : ∀ {o : HO}, Plo o → Ntb o := fun {o} h => by cases o <;> first | exact True.intro | exact h
theorem Wd.al : ∀ {W : Wd} {H : Hp} {a : Addr}, W.ok H → W.own a → ∃ o : HoN, H a = some o.1
  | some (b, s, T), H, a, h, .inl e => by
    obtain ⟨ys, hb⟩ := Bag.hb h.1
    exact ⟨⟨.lst _, True.intro⟩, e ▸ hb⟩
  | some (b, s, T), H, a, h, .inr (.inl e) => by
    obtain ⟨ys, hb⟩ := Bag.hs h.1
    exact ⟨⟨.lst _, True.intro⟩, e ▸ hb⟩
  | some (b, s, T), H, a, h, .inr (.inr ⟨p, hp, e⟩) => by
    obtain ⟨ps, h1, _⟩ := h.2.1 p hp
    exact ⟨⟨.tbl ps, True.intro⟩, e ▸ h1⟩
theorem Wd.st0 : ∀ {W : Wd} {H H' : Hp}, W.ok H → (∀ a o, H a = some o → (W.own a ∨ ¬ Plo o) → H' a = some o) → NoT H H' → W.ok H'
  | none, _, _, _, _, _ => trivial
  | some (b, s, T), H, H', h, k, n => by
    obtain ⟨⟨ns, i, big, salt, B⟩, tb, nt⟩ := h
    refine ⟨⟨ns, i, big, salt, k _ _ B.hb (.inl (.inl rfl)), k _ _ B.hs (.inl (.inr (.inl rfl))), B.ne, B.hi, B.hn, B.h0, B.h1, B.h2⟩, fun p hp => ?_, fun ne a ps h => let ⟨qs, q⟩ := n a ps h; nt ne a qs q⟩
    obtain ⟨ps, h1, h2, h3⟩ := tb p hp
    refine ⟨ps, k _ _ h1 (.inl (.inr (.inr ⟨p, hp, rfl⟩))), h2, fun pos cv hc => ?_⟩
    obtain ⟨c, e, hcd⟩ := h3 pos cv hc
    exact ⟨c, e, k _ _ hcd (.inr (codeO_tr _ _))⟩
theorem Wd.st {W : Wd} {H H' : Hp} (h : W.ok H) (k : ∀ a o, H a = some o → (W.own a ∨ ¬ Plo o) → H' a = some o) (n : NoT H H') : W.ok H' := Wd.st0 h k n
mutual
inductive Dd (K : PySem.W.Frag) (N : Addr → Prop) (W : Wd) (H : Hp) : V → D → Prop
  | non : Dd K N W H .non .non
  | bl (b : Bool) : Dd K N W H (.bl b) (.bl b)
  | int (i : Int) : Dd K N W H (.int i) (.int i)
  | str (x : Str) : Dd K N W H (.str x) (.str x)
  | lst {a : Addr} {vs : List V} {ds : List D} : H a = some (.lst vs) → ¬ N a → DdAll K N W H vs ds → Dd K N W H (.ref a) (.lst ds)
  | tup {a : Addr} {vs : List V} {ds : List D} : H a = some (.tup vs) → ¬ N a → DdAll K N W H vs ds → Dd K N W H (.ref a) (.tup ds)
  | dic {a : Addr} {kvs : List (Key × V)} {kds : List (Key × D)} : Rd H a (.dK kvs) → ¬ N a → kvs.map (·.1) = kds.map (·.1) → DdAll K N W H (kvs.map (·.2)) (kds.map (·.2)) → Dd K N W H (.ref a) (.dic kds)
  | dct {a : Addr} {kvs : List (List Key × V)} {kds : List (List Key × D)} : Rd H a (.dT kvs) → ¬ N a → kvs.map (·.1) = kds.map (·.1) → DdAll K N W H (kvs.map (·.2)) (kds.map (·.2)) → Dd K N W H (.ref a) (.dct kds)
  | obj {a C dx : Addr} {fs : List (Str × V)} {fds : List (Str × D)} : H a = some (.ins C dx fs) → ¬ N a → fs.map (·.1) = fds.map (·.1) → DdAll K N W H (fs.map (·.2)) (fds.map (·.2)) → Dd K N W H (.ref a) (.obj C fds)
  | ktp {a : Addr} {o : Obj} {its : Array Value} {n : Nat} {vs : List V} {ds : List D} : K.lookup a = some o → o.cls = .type "tuple" → o.data = .seq its n → its.size ≤ sizeLine → Vals vs its.toList → DdAll K N W H vs ds → Dd K N W H (.ref a) (.ktp ds)
  | bag {b s : Addr} {T : List (Addr × Str)} : W = some (b, s, T) → Dd K N W H (.ref b) .bag
  | fn {f : Addr} {F : LF} {vs : List V} {ds : List D} : FnH N H f F vs → DdAll K N W H vs ds → Dd K N W H (.ref f) (.fn F ds)
  | tr {a : Addr} {G : GdF} {xs : List TrKv} {kvs : List (BKey × Option BKey)} : H a = some (TrO (G ()) a xs) → ¬ N a → TrR N H xs kvs → Dd K N W H (.ref a) (.tr G kvs)
inductive DdAll (K : PySem.W.Frag) (N : Addr → Prop) (W : Wd) (H : Hp) : List V → List D → Prop
  | nil : DdAll K N W H [] []
  | cons {v : V} {d : D} {vs : List V} {ds : List D} : Dd K N W H v d → DdAll K N W H vs ds → DdAll K N W H (v :: vs) (d :: ds)
end
section
variable {K : PySem.W.Frag} {N N' : Addr → Prop} {W : Wd} {H H' : Hp}
theorem rd_keep {a : Addr} {o : HO} (k : ∀ o, H a = some o → H' a = some o) (h : Rd H a o) : Rd H' a o := by
  rcases h with h | ⟨u, h⟩
  · exact .inl (k _ h)
  · exact .inr ⟨u, k _ h⟩
mutual
theorem Dd.pres (k : ∀ a o, ¬ N a → H a = some o → ¬ N' a ∧ H' a = some o) : ∀ {v : V} {d : D}, Dd K N W H v d → Dd K N' W H' v d
  | _, _, .non => .non
  | _, _, .bl b => .bl b
  | _, _, .int i => .int i
  | _, _, .str x => .str x
  | _, _, .lst h q a => .lst (k _ _ q h).2 (k _ _ q h).1 (DdAll.pres k a)
  | _, _, .tup h q a => .tup (k _ _ q h).2 (k _ _ q h).1 (DdAll.pres k a)
  | _, _, .ktp h1 h2 h3 h4 h5 a => .ktp h1 h2 h3 h4 h5 (DdAll.pres k a)
  | _, _, .dic h q e a => .dic (rd_keep (fun o g => (k _ o q g).2) h) (by rcases h with h | ⟨u, h⟩ <;> exact (k _ _ q h).1) e (DdAll.pres k a)
  | _, _, .dct h q e a => .dct (rd_keep (fun o g => (k _ o q g).2) h) (by rcases h with h | ⟨u, h⟩ <;> exact (k _ _ q h).1) e (DdAll.pres k a)
  | _, _, .obj h q e a => .obj (k _ _ q h).2 (k _ _ q h).1 e (DdAll.pres k a)
  | _, _, .bag e => .bag e
  | _, _, .fn h a => .fn (h.pres k) (DdAll.pres k a)
  | _, _, .tr h q a => .tr (k _ _ q h).2 (k _ _ q h).1 (a.pres k)
theorem DdAll.pres (k : ∀ a o, ¬ N a → H a = some o → ¬ N' a ∧ H' a = some o) : ∀ {vs : List V} {ds : List D}, DdAll K N W H vs ds → DdAll K N' W H' vs ds
  | _, _, .nil => .nil
  | _, _, .cons h a => .cons (Dd.pres k h) (DdAll.pres k a)
end
theorem Dd.keep (k : ∀ a o, ¬ N a → H a = some o → H' a = some o) (n : ∀ a, N' a → N a) {v : V} {d : D} (h : Dd K N W H v d) : Dd K N' W H' v d := h.pres fun a o q g => ⟨fun z => q (n a z), k a o q g⟩
theorem DdAll.keep (k : ∀ a o, ¬ N a → H a = some o → H' a = some o) (n : ∀ a, N' a → N a) {v : List V} {d : List D} (h : DdAll K N W H v d) : DdAll K N' W H' v d := h.pres fun a o q g => ⟨fun z => q (n a z), k a o q g⟩
theorem DdAll.len : ∀ {vs : List V} {ds : List D}, DdAll K N W H vs ds → vs.length = ds.length
  | _, _, .nil => rfl
  | _, _, .cons _ a => congrArg Nat.succ (DdAll.len a)
theorem DdAll.get : ∀ {vs : List V} {ds : List D} {i : Nat} {d : D}, DdAll K N W H vs ds → ds[i]? = some d → ∃ v, vs[i]? = some v ∧ Dd K N W H v d
  | _, _, _, _, .nil, h => by simp at h
  | _, _, 0, _, .cons (v := v) q _, h => by
    have e := Option.some.inj h
    exact ⟨v, rfl, e ▸ q⟩
  | _, _, i + 1, _, .cons _ a, h => DdAll.get (i := i) a h
theorem DdAll.app : ∀ {vs us : List V} {ds es : List D}, DdAll K N W H vs ds → DdAll K N W H us es → DdAll K N W H (vs ++ us) (ds ++ es)
  | _, _, _, _, .nil, b => b
  | _, _, _, _, .cons h a, b => .cons h (DdAll.app a b)
theorem DdAll.drop : ∀ {vs : List V} {ds : List D} (n : Nat), DdAll K N W H vs ds → DdAll K N W H (vs.drop n) (ds.drop n)
  | _, _, 0, a => a
  | _, _, _ + 1, .nil => .nil
  | _, _, n + 1, .cons _ a => DdAll.drop n a
theorem DdAll.take : ∀ {vs : List V} {ds : List D} (n : Nat), DdAll K N W H vs ds → DdAll K N W H (vs.take n) (ds.take n)
  | _, _, 0, _ => .nil
  | _, _, _ + 1, .nil => .nil
  | _, _, n + 1, .cons h a => .cons h (DdAll.take n a)
theorem DdAll.set : ∀ {vs : List V} {ds : List D} (i : Nat) {v : V} {d : D}, DdAll K N W H vs ds → Dd K N W H v d → DdAll K N W H (vs.set i v) (ds.set i d)
  | _, _, _, _, _, .nil, _ => .nil
  | _, _, 0, _, _, .cons _ a, q => .cons q a
  | _, _, i + 1, _, _, .cons h a, q => .cons h (DdAll.set i a q)
end
inductive Ic where
  | fz (d : D) | lst (a : Addr) (ds : List D) | dic (a : Addr) (kvs : List (Key × D)) | dct (a : Addr) (kvs : List (List Key × D))
def Ic.d : Ic → D
  | .fz d => d
  | .lst _ ds => .lst ds
  | .dic _ kvs => .dic kvs
  | .dct _ kvs => .dct kvs
def Ic.ad : Ic → List Addr
  | .fz _ => []
  | .lst a _ => [a]
  | .dic a _ => [a]
  | .dct a _ => [a]
inductive Fe where
  | fz (d : D) | ow (b : Addr) (ds : List D) | od (b : Addr) (kvs : List (Key × D)) | ot (b : Addr) (kvs : List (List Key × D)) | on (b : Addr) (kvs : List (Key × Ic))
def Fe.ad : Fe → List Addr
  | .fz _ => []
  | .on b kvs => b :: kvs.flatMap (·.2.ad)
  | .ow b _ => [b]
  | .od b _ => [b]
  | .ot b _ => [b]
def fsAd (fs : List (Str × Fe)) : List Addr := fs.flatMap fun p => p.2.ad
inductive En where
  | no | fz (d : D) | ow (ds : List D) | od (kvs : List (Key × D)) | ot (kvs : List (List Key × D)) | oo (C a : Addr) (fs : List (Str × Fe)) | fe (e : Fe) | otr (G : GdF) (kvs : List (BKey × Option BKey))
def En.ad : En → List Addr
  | .oo _ a fs => a :: fsAd fs
  | .fe e => e.ad
  | _ => []
def En.isOw : En → Bool
  | .ow _ => true | .od _ => true | .ot _ => true | .otr _ _ => true | _ => false
abbrev De := List En
def KeepW (W : Wd) (H H' : Hp) : Prop := ∀ a o, ¬ W.own a → H a = some o → H' a = some o
theorem KeepW.refl (W : Wd) (H : Hp) : KeepW W H H := fun _ _ _ h => h
theorem KeepW.trans {W : Wd} {H H1 H2 : Hp} (a : KeepW W H H1) (b : KeepW W H1 H2) : KeepW W H H2 := fun x o n h => b x o n (a x o n h)
theorem KeepW.new {W : Wd} {H : Hp} {p : Addr} {o : HO} (h : H p = none) : KeepW W H (upd H p o) := fun b u _ q => by rw [upd_ne (ne_of_none q h)]; exact q
theorem ok_new {W : Wd} {H : Hp} {p : Addr} {o : HO} (k : W.ok H) (h : H p = none) (n : Ntb o := by exact True.intro) : W.ok (upd H p o) := Wd.st k (fun b u q _ => by rw [upd_ne (ne_of_none q h)]; exact q) (noT_upd n)
inductive Fr where
  | b (x : Bool) | ch (j : Nat) | ob (R : Hp → Prop) | pr
instance : Coe Bool Fr := ⟨Fr.b⟩
def starN (N0 : Addr → Prop) (H : Hp) : Addr → Prop := fun a => N0 a ∨ ∃ o, H a = some o ∧ Nt o
def Ch (j : Nat) (H H' : Hp) (v : V) (x : D) : Prop := ∀ xs ys, x = .tup xs → xs[j]? = some (.lst ys) → ∃ t vs c us, v = .ref t ∧ H' t = some (.tup vs) ∧ vs[j]? = some (.ref c) ∧ H c = none ∧ H' c = some (.lst us)
structure Fx where
  K : PySem.W.Frag
  W : Wd
  N0 : Addr → Prop
  H0 : Hp
  fr : Fr
def Fx.N (F : Fx) (L : List Addr) : Addr → Prop := fun a => F.N0 a ∨ a ∈ L
def IcOk (F : Fx) (L : List Addr) (H : Hp) : Ic → V → Prop
  | .fz d, v => Dd F.K (F.N L) F.W H v d
  | .lst a ds, v => v = .ref a ∧ ∃ vs, H a = some (.lst vs) ∧ DdAll F.K (F.N L) F.W H vs ds
  | .dic a kds, v => v = .ref a ∧ ∃ kvs, H a = some (.dK kvs) ∧ kvs.map (·.1) = kds.map (·.1) ∧ DdAll F.K (F.N L) F.W H (kvs.map (·.2)) (kds.map (·.2))
  | .dct a kds, v => v = .ref a ∧ ∃ kvs, H a = some (.dT kvs) ∧ kvs.map (·.1) = kds.map (·.1) ∧ DdAll F.K (F.N L) F.W H (kvs.map (·.2)) (kds.map (·.2))
def IcAll (F : Fx) (L : List Addr) (H : Hp) : List (Key × V) → List (Key × Ic) → Prop
  | [], [] => True
  | (k, v) :: vs, (k', c) :: cs => k = k' ∧ IcOk F L H c v ∧ IcAll F L H vs cs
  | _, _ => False
def FeOk (F : Fx) (L : List Addr) (H : Hp) : Fe → V → Prop
  | .on b kvs, v => v = .ref b ∧ ∃ vs, H b = some (.dK vs) ∧ IcAll F L H vs kvs
  | .fz d, v => Dd F.K (F.N L) F.W H v d
  | .ow b ds, v => v = .ref b ∧ ∃ vs, H b = some (.lst vs) ∧ DdAll F.K (F.N L) F.W H vs ds
  | .od b kds, v => v = .ref b ∧ ∃ kvs, H b = some (.dK kvs) ∧ kvs.map (·.1) = kds.map (·.1) ∧ DdAll F.K (F.N L) F.W H (kvs.map (·.2)) (kds.map (·.2))
  | .ot b kds, v => v = .ref b ∧ ∃ kvs, H b = some (.dT kvs) ∧ kvs.map (·.1) = kds.map (·.1) ∧ DdAll F.K (F.N L) F.W H (kvs.map (·.2)) (kds.map (·.2))
def FeAll (F : Fx) (L : List Addr) (H : Hp) (vs : List (Str × V)) (fs : List (Str × Fe)) : Prop := vs.map (·.1) = fs.map (·.1) ∧ ∀ (i : Nat) (f : Str) (e : Fe), fs[i]? = some (f, e) → ∃ v, vs[i]? = some (f, v) ∧ FeOk F L H e v
def EnOk (F : Fx) (L : List Addr) (H : Hp) : En → Option V → Prop
  | .no, _ => True
  | .fz d, some v => Dd F.K (F.N L) F.W H v d
  | .ow ds, some (.ref a) => a ∈ L ∧ ∃ vs, H a = some (.lst vs) ∧ DdAll F.K (F.N L) F.W H vs ds
  | .od kds, some (.ref a) => a ∈ L ∧ ∃ kvs, H a = some (.dK kvs) ∧ kvs.map (·.1) = kds.map (·.1) ∧ DdAll F.K (F.N L) F.W H (kvs.map (·.2)) (kds.map (·.2))
  | .ot kds, some (.ref a) => a ∈ L ∧ ∃ kvs, H a = some (.dT kvs) ∧ kvs.map (·.1) = kds.map (·.1) ∧ DdAll F.K (F.N L) F.W H (kvs.map (·.2)) (kds.map (·.2))
  | .otr G kds, some (.ref a) => a ∈ L ∧ ∃ kvs, H a = some (TrO (G ()) a kvs) ∧ TrR (F.N L) H kvs kds
  | .oo C a fs, some (.ref b) => b = a ∧ (∀ x ∈ a :: fsAd fs, x ∈ L) ∧ (a :: fsAd fs).Nodup ∧ ∃ dx vs, H a = some (.ins C dx vs) ∧ FeAll F L H vs fs
  | .fe e, some v => (∀ x ∈ e.ad, x ∈ L) ∧ e.ad.Nodup ∧ FeOk F L H e v
  | _, _ => False
def SoP (env : De) (σ : L2.St) : Prop := ∀ (i : Nat) (e : En) (b : Addr), env[i]? = some e → b ∈ e.ad → (∀ (j : Nat) (ej : En), env[j]? = some ej → ej.isOw = true → σ[j]? = some (some (.ref b)) → False) ∧ ∀ (j : Nat) (ej : En), env[j]? = some ej → b ∈ ej.ad → i = j
structure Abs (F : Fx) (env : De) (σ : L2.St) (L : List Addr) (H : Hp) : Prop where
  ok : F.W.ok H
  al : ∀ a, F.N0 a → ∃ o : HoN, F.H0 a = some o.1
  wn : ∀ a, F.W.own a → F.N0 a
  kp : KeepW F.W F.H0 H
  fr : ∀ a ∈ L, F.H0 a = none ∧ ∃ o, H a = some o ∧ Plo o
  ls : env.length = σ.length
  sep : ∀ (i j : Nat) (a : Addr) (ei ej : En), env[i]? = some ei → env[j]? = some ej → ei.isOw = true → ej.isOw = true → σ[i]? = some (some (.ref a)) → σ[j]? = some (some (.ref a)) → i = j
  so : SoP env σ
  en : ∀ (i : Nat) (e : En) (x : Option V), env[i]? = some e → σ[i]? = some x → EnOk F L H e x
section
variable {F : Fx} {env : De} {σ : L2.St} {L : List Addr} {H H' : Hp}
theorem Abs.alN (A : Abs F env σ L H) {a : Addr} (h : F.N L a) : ∃ o : HoN, H a = some o.1 := by
  rcases h with h | h
  · obtain ⟨o, e⟩ := A.al a h
    by_cases w : F.W.own a
    · exact Wd.al A.ok w
    · exact ⟨o, A.kp a o.1 w e⟩
  · obtain ⟨_, o, e, pl⟩ := A.fr a h
    exact ⟨⟨o, pl.nt⟩, e⟩
theorem Abs.alO (A : Abs F env σ L H) {a : Addr} (h : F.N L a) : ∃ o, H a = some o := (let ⟨o, e⟩ := A.alN h; ⟨o.1, e⟩)
theorem Abs.new (A : Abs F env σ L H) {p : Addr} (h : H p = none) : ¬ F.N L p := fun z => by
  obtain ⟨o, e⟩ := A.alN z
  rw [h] at e
  cases e
theorem Abs.out (A : Abs F env σ L H) {a : Addr} (h : a ∈ L) : ¬ F.N0 a := fun z => by
  obtain ⟨o, e⟩ := A.al a z
  rw [(A.fr a h).1] at e
  cases e
theorem nw_of (A : Abs F env σ L H) {a : Addr} (h : ¬ F.N L a) : ¬ F.W.own a := fun z => h (.inl (A.wn a z))
theorem KeepW.n (A : Abs F env σ L H) (k : KeepW F.W H H') : ∀ a o, ¬ F.N L a → H a = some o → H' a = some o := fun a o n h => k a o (nw_of A n) h
theorem Abs.kd (A : Abs F env σ L H) (k : KeepW F.W H H') {v : V} {d : D} (h : Dd F.K (F.N L) F.W H v d) : Dd F.K (F.N L) F.W H' v d := h.keep (k.n A) fun _ z => z
theorem Abs.kda (A : Abs F env σ L H) (k : KeepW F.W H H') {v : List V} {d : List D} (h : DdAll F.K (F.N L) F.W H v d) : DdAll F.K (F.N L) F.W H' v d := h.keep (k.n A) fun _ z => z
theorem ad_ow {e : En} (h : e.isOw = true) : e.ad = [] := by cases e <;> first | rfl | cases h
theorem fe_mem {fs : List (Str × Fe)} {i : Nat} {f : Str} {e : Fe} (h : fs[i]? = some (f, e)) {b : Addr} (hb : b ∈ e.ad) : b ∈ fsAd fs := List.mem_flatMap.mpr ⟨_, List.mem_of_getElem? h, hb⟩
theorem IcOk.pres {L' : List Addr} (pr : ∀ a o, ¬ F.N L a → H a = some o → ¬ F.N L' a ∧ H' a = some o) : ∀ {c : Ic} {v : V}, (∀ b ∈ c.ad, ∀ o, H b = some o → H' b = some o) → IcOk F L H c v → IcOk F L' H' c v
  | .fz d, v, _, h => Dd.pres pr h
  | .lst a ds, v, g, ⟨h1, vs, h2, h3⟩ => ⟨h1, vs, g a List.mem_cons_self _ h2, h3.pres pr⟩
  | .dic a ds, v, g, ⟨h1, vs, h2, h4, h3⟩ => ⟨h1, vs, g a List.mem_cons_self _ h2, h4, h3.pres pr⟩
  | .dct a ds, v, g, ⟨h1, vs, h2, h4, h3⟩ => ⟨h1, vs, g a List.mem_cons_self _ h2, h4, h3.pres pr⟩
theorem IcAll.pres {L' : List Addr} (pr : ∀ a o, ¬ F.N L a → H a = some o → ¬ F.N L' a ∧ H' a = some o) : ∀ {cs : List (Key × Ic)} {vs : List (Key × V)}, (∀ b ∈ cs.flatMap (·.2.ad), ∀ o, H b = some o → H' b = some o) → IcAll F L H vs cs → IcAll F L' H' vs cs
  | [], [], _, _ => trivial
  | [], _ :: _, _, h => h.elim
  | _ :: _, [], _, h => h.elim
  | (k', c) :: cs, (k, v) :: vs, g, ⟨h1, h2, h3⟩ => ⟨h1, h2.pres pr fun b hb => g b (by rw [List.flatMap_cons]; exact List.mem_append_left _ hb), h3.pres pr fun b hb => g b (by rw [List.flatMap_cons]; exact List.mem_append_right _ hb)⟩
theorem FeOk.pres {L' : List Addr} (pr : ∀ a o, ¬ F.N L a → H a = some o → ¬ F.N L' a ∧ H' a = some o) : ∀ {e : Fe} {v : V}, (∀ b ∈ e.ad, ∀ o, H b = some o → H' b = some o) → FeOk F L H e v → FeOk F L' H' e v
  | .fz d, v, _, h => Dd.pres pr h
  | .ow b ds, _, g, ⟨h1, vs, h2, h3⟩ => ⟨h1, vs, g b List.mem_cons_self _ h2, h3.pres pr⟩
  | .od b ds, _, g, ⟨h1, vs, h2, h4, h3⟩ => ⟨h1, vs, g b List.mem_cons_self _ h2, h4, h3.pres pr⟩
  | .ot b ds, _, g, ⟨h1, vs, h2, h4, h3⟩ => ⟨h1, vs, g b List.mem_cons_self _ h2, h4, h3.pres pr⟩
  | .on b kvs, _, g, ⟨h1, vs, h2, h3⟩ => ⟨h1, vs, g b List.mem_cons_self _ h2, h3.pres pr fun x hx => g x (List.mem_cons_of_mem _ hx)⟩
theorem FeAll.pres {L' : List Addr} (pr : ∀ a o, ¬ F.N L a → H a = some o → ¬ F.N L' a ∧ H' a = some o) {vs : List (Str × V)} {fs : List (Str × Fe)} (g : ∀ b ∈ fsAd fs, ∀ o, H b = some o → H' b = some o) (h : FeAll F L H vs fs) : FeAll F L' H' vs fs :=
  ⟨h.1, fun i f e hi => let ⟨v, h1, h2⟩ := h.2 i f e hi; ⟨v, h1, h2.pres pr fun b hb => g b (fe_mem hi hb)⟩⟩
theorem EnOk.keep {L' : List Addr} (A : Abs F env σ L H) (k : ∀ a o, ¬ F.N L a → H a = some o → H' a = some o) (n : ∀ a, F.N L' a → F.N L a) : ∀ {e : En} {x : Option V}, (∀ a, x = some (.ref a) → e.isOw = true → a ∈ L → a ∈ L' ∧ ∀ o, H a = some o → H' a = some o) → (∀ b ∈ e.ad, b ∈ L → b ∈ L' ∧ ∀ o, H b = some o → H' b = some o) → EnOk F L H e x → EnOk F L' H' e x
  | .no, _, _, _, _ => trivial
  | .fz d, some v, _, _, h => Dd.keep k n h
  | .oo C a fs, some (.ref b), _, g, ⟨h1, h2, h3, dx, vs, h4, h5⟩ => ⟨h1, fun x hx => (g x hx (h2 x hx)).1, h3, dx, vs, (g a List.mem_cons_self (h2 a List.mem_cons_self)).2 _ h4, h5.pres (fun x o q e => ⟨fun z => q (n x z), k x o q e⟩) fun x hx => (g x (List.mem_cons_of_mem _ hx) (h2 x (List.mem_cons_of_mem _ hx))).2⟩
  | .fe e, some v, _, g, ⟨h2, h3, h4⟩ => ⟨fun x hx => (g x hx (h2 x hx)).1, h3, h4.pres (fun x o q e => ⟨fun z => q (n x z), k x o q e⟩) fun x hx => (g x hx (h2 x hx)).2⟩
  | .ow ds, some (.ref a), g, _, ⟨h1, vs, h2, h3⟩ => let ⟨g1, g2⟩ := g a rfl rfl h1; ⟨g1, vs, g2 _ h2, DdAll.keep k n h3⟩
  | .od ds, some (.ref a), g, _, ⟨h1, vs, h2, h4, h3⟩ => let ⟨g1, g2⟩ := g a rfl rfl h1; ⟨g1, vs, g2 _ h2, h4, DdAll.keep k n h3⟩
  | .ot ds, some (.ref a), g, _, ⟨h1, vs, h2, h4, h3⟩ => let ⟨g1, g2⟩ := g a rfl rfl h1; ⟨g1, vs, g2 _ h2, h4, DdAll.keep k n h3⟩
  | .otr G ds, some (.ref a), g, _, ⟨h1, vs, h2, h3⟩ => let ⟨g1, g2⟩ := g a rfl rfl h1; ⟨g1, vs, g2 _ h2, h3.pres fun x o q e => ⟨fun z => q (n x z), k x o q e⟩⟩
theorem Abs.step (A : Abs F env σ L H) (k : KeepW F.W H H') (o : F.W.ok H') : Abs F env σ L H' := by
  have w : ∀ a ∈ L, ¬ F.W.own a := fun a h z => A.out h (A.wn a z)
  refine ⟨o, A.al, A.wn, A.kp.trans k, fun a h => ?_, A.ls, A.sep, A.so, fun i e x h1 h2 => ?_⟩
  · obtain ⟨h1, u, h2, pl⟩ := A.fr a h
    exact ⟨h1, u, k a u (w a h) h2, pl⟩
  · exact EnOk.keep A (k.n A) (fun _ z => z) (fun a _ _ h => ⟨h, fun o q => k a o (w a h) q⟩) (fun a _ h => ⟨h, fun o q => k a o (w a h) q⟩) (A.en i e x h1 h2)
end
theorem get_set {α : Type} {l : List α} {i j : Nat} {x y : α} (h : (l.set i x)[j]? = some y) : (i = j ∧ y = x ∧ i < l.length) ∨ (i ≠ j ∧ l[j]? = some y) := by
  by_cases hj : i = j
  · subst hj
    by_cases hi : i < l.length
    · rw [List.getElem?_set_self hi] at h
      exact .inl ⟨rfl, (Option.some.inj h).symm, hi⟩
    · rw [List.getElem?_eq_none (by rw [List.length_set]; omega)] at h
      cases h
  · rw [List.getElem?_set_ne hj] at h
    exact .inr ⟨hj, h⟩
theorem SoP.set0 {env : De} {σ : L2.St} (S : SoP env σ) {i : Nat} {e' : En} (h0 : e'.ad = []) (h1 : e'.isOw = false) (y : Option V) : SoP (env.set i e') (σ.set i y) := fun j e b hj hb => by
  rcases get_set hj with ⟨_, rfl, _⟩ | ⟨nj, hj2⟩
  · rw [h0] at hb; cases hb
  · obtain ⟨s1, s2⟩ := S j e b hj2 hb
    refine ⟨fun l el hl ow hs => ?_, fun l el hl hb' => ?_⟩
    · rcases get_set hl with ⟨_, rfl, _⟩ | ⟨nl, hl2⟩
      · rw [h1] at ow; cases ow
      · rw [List.getElem?_set_ne nl] at hs
        exact s1 l el hl2 ow hs
    · rcases get_set hl with ⟨_, rfl, _⟩ | ⟨nl, hl2⟩
      · rw [h0] at hb'; cases hb'
      · exact s2 l el hl2 hb'
theorem SoP.setS {env : De} {σ : L2.St} (S : SoP env σ) {i : Nat} {e' : En} (h0 : e'.ad = []) (h1 : e'.isOw = false) : SoP (env.set i e') σ := fun j e b hj hb => by
  rcases get_set hj with ⟨_, rfl, _⟩ | ⟨nj, hj2⟩
  · rw [h0] at hb; cases hb
  · obtain ⟨s1, s2⟩ := S j e b hj2 hb
    refine ⟨fun l el hl ow hs => ?_, fun l el hl hb' => ?_⟩
    · rcases get_set hl with ⟨_, rfl, _⟩ | ⟨nl, hl2⟩
      · rw [h1] at ow; cases ow
      · exact s1 l el hl2 ow hs
    · rcases get_set hl with ⟨_, rfl, _⟩ | ⟨nl, hl2⟩
      · rw [h0] at hb'; cases hb'
      · exact s2 l el hl2 hb'
theorem SoP.setW {env : De} {σ : L2.St} (S : SoP env σ) (ls : env.length = σ.length) {i : Nat} {e' : En} {a : Addr} (h0 : e'.ad = []) (no : ∀ (j : Nat) (ej : En), env[j]? = some ej → a ∉ ej.ad) : SoP (env.set i e') (σ.set i (some (.ref a))) := fun j e b hj hb => by
  rcases get_set hj with ⟨_, rfl, _⟩ | ⟨nj, hj2⟩
  · rw [h0] at hb; cases hb
  · obtain ⟨s1, s2⟩ := S j e b hj2 hb
    refine ⟨fun l el hl ow hs => ?_, fun l el hl hb' => ?_⟩
    · rcases get_set hl with ⟨rfl, rfl, hi⟩ | ⟨nl, hl2⟩
      · rw [List.getElem?_set_self (by rw [← ls]; exact hi)] at hs
        cases hs
        exact no j e hj2 hb
      · rw [List.getElem?_set_ne nl] at hs
        exact s1 l el hl2 ow hs
    · rcases get_set hl with ⟨_, rfl, _⟩ | ⟨nl, hl2⟩
      · rw [h0] at hb'; cases hb'
      · exact s2 l el hl2 hb'
theorem SoP.wr {env : De} {σ : L2.St} (S : SoP env σ) {i : Nat} {e e' : En} (h0 : e'.ad = []) (hi : env[i]? = some e) (ow : e.isOw = true) : SoP (env.set i e') σ := fun j e2 b hj hb => by
  rcases get_set hj with ⟨_, rfl, _⟩ | ⟨nj, hj2⟩
  · rw [h0] at hb; cases hb
  · obtain ⟨s1, s2⟩ := S j e2 b hj2 hb
    refine ⟨fun l el hl ow' hs => ?_, fun l el hl hb' => ?_⟩
    · rcases get_set hl with ⟨rfl, rfl, _⟩ | ⟨nl, hl2⟩
      · exact s1 i e hi ow hs
      · exact s1 l el hl2 ow' hs
    · rcases get_set hl with ⟨_, rfl, _⟩ | ⟨nl, hl2⟩
      · rw [h0] at hb'; cases hb'
      · exact s2 l el hl2 hb'
abbrev TDE := De → (D → Prop) → Prop
abbrev TDT := De → (Bool → Prop) → Prop
abbrev TDA := De → (List D → Prop) → Prop
def lC (F : Fx) (d : TDE) : TE := fun σ H Q => ∃ env L P, Abs F env σ L H ∧ d env P ∧ ∀ x v H', P x → KeepW F.W H H' → F.W.ok H' → Dd F.K (F.N L) F.W H' v x → Q v H'
def NewV (F : Fx) (L : List Addr) (H : Hp) (a : Addr) : D → Prop
  | .lst ds => ∃ vs, H a = some (.lst vs) ∧ DdAll F.K (F.N (a :: L)) F.W H vs ds
  | .tup ds => ∃ vs, H a = some (.tup vs) ∧ DdAll F.K (F.N (a :: L)) F.W H vs ds
  | .dic kds => ∃ kvs, H a = some (.dK kvs) ∧ kvs.map (·.1) = kds.map (·.1) ∧ DdAll F.K (F.N (a :: L)) F.W H (kvs.map (·.2)) (kds.map (·.2))
  | .dct kds => ∃ kvs, H a = some (.dT kvs) ∧ kvs.map (·.1) = kds.map (·.1) ∧ DdAll F.K (F.N (a :: L)) F.W H (kvs.map (·.2)) (kds.map (·.2))
  | .tr G kds => ∃ kvs, H a = some (TrO (G ()) a kvs) ∧ TrR (F.N (a :: L)) H kvs kds
  | _ => False
theorem nl_sub {F : Fx} {L : List Addr} {a : Addr} : ∀ x, F.N L x → F.N (a :: L) x := fun x h => h.imp id (List.mem_cons_of_mem _)
theorem NewV.dd {F : Fx} {L : List Addr} {H : Hp} {a : Addr} (n : ¬ F.N L a) : ∀ {x : D}, NewV F L H a x → Dd F.K (F.N L) F.W H (.ref a) x
  | .lst ds, ⟨vs, h, g⟩ => .lst h n (g.keep (fun _ _ _ z => z) nl_sub)
  | .tup ds, ⟨vs, h, g⟩ => .tup h n (g.keep (fun _ _ _ z => z) nl_sub)
  | .dic ds, ⟨vs, h, e, g⟩ => .dic (.inl h) n e (g.keep (fun _ _ _ z => z) nl_sub)
  | .dct ds, ⟨vs, h, e, g⟩ => .dct (.inl h) n e (g.keep (fun _ _ _ z => z) nl_sub)
  | .tr G ds, ⟨vs, h, g⟩ => .tr h n (g.pres fun x o q e => ⟨fun z => q (nl_sub x z), e⟩)
def lN (F : Fx) (d : TDE) : TE := fun σ H Q => ∃ env L P, Abs F env σ L H ∧ d env P ∧ ∀ x a H', P x → KeepW F.W H H' → F.W.ok H' → H a = none → NewV F L H' a x → Q (.ref a) H'
def Bw (F : Fx) (L : List Addr) (H : Hp) (v : V) (x : D) : Prop := Dd F.K (F.N L) F.W H v x ∨ ∃ e, e.isOw = true ∧ EnOk F L H e (some v) ∧ x = (match e with | .ow ds => .lst ds | .od ds => .dic ds | .ot ds => .dct ds | .otr G ds => .tr G ds | _ => .non)
def lB (F : Fx) (d : TDE) : TE := fun σ H Q => ∃ env L P, Abs F env σ L H ∧ d env P ∧ ∀ x v H', P x → KeepW F.W H H' → F.W.ok H' → Bw F L H' v x → Q v H'
def lT (F : Fx) (d : TDT) : TT := fun σ H Q => ∃ env L P, Abs F env σ L H ∧ d env P ∧ ∀ x H', P x → KeepW F.W H H' → F.W.ok H' → Q x H'
def lA (F : Fx) (d : TDA) : TA := fun σ H Q => ∃ env L P, Abs F env σ L H ∧ d env P ∧ ∀ xs vs H', P xs → KeepW F.W H H' → F.W.ok H' → DdAll F.K (F.N L) F.W H' vs xs → Q vs H'
section
variable {X : Cx} {F : Fx} {e a b : Expr} {d da db : TDE}
theorem PE.mono {t t' : TE} (h : PE X e t) (m : ∀ σ H Q, t' σ H Q → t σ H Q) : PE X e t' := ⟨fun pins s σ H Q I q => h.run pins s σ H Q I (m σ H Q q)⟩
theorem PT.mono {t t' : TT} (h : PT X e t) (m : ∀ σ H Q, t' σ H Q → t σ H Q) : PT X e t' := ⟨fun pins s σ H Q I q => h.run pins s σ H Q I (m σ H Q q)⟩
theorem PW.mono {t t' : TT} (h : PW X e t) (m : ∀ σ H Q, t' σ H Q → t σ H Q) : PW X e t' := ⟨fun wh pins s σ H Q I q => h.run wh pins s σ H Q I (m σ H Q q)⟩
theorem PA.mono {es : List Expr} {t t' : TA} (h : PA X es t) (m : ∀ σ H Q, t' σ H Q → t σ H Q) : PA X es t' := ⟨fun pos pins s σ H Q I q => h.run pos pins s σ H Q I (m σ H Q q)⟩
theorem PK.mono {es : List Keyword} {t t' : TA} (h : PK X es t) (m : ∀ σ H Q, t' σ H Q → t σ H Q) : PK X es t' := ⟨fun pos pins s σ H Q I q => h.run pos pins s σ H Q I (m σ H Q q)⟩
theorem PS.mono {st : Stmt} {t t' : TS} (h : PS X st t) (m : ∀ E σ H, t' E σ H → t E σ H) : PS X st t' := ⟨fun pins s σ H E I q => h.run pins s σ H E I (m E σ H q)⟩
theorem PSs.mono {st : List Stmt} {t t' : TS} (h : PSs X st t) (m : ∀ E σ H, t' E σ H → t E σ H) : PSs X st t' := ⟨fun pins s σ H E I q => h.run pins s σ H E I (m E σ H q)⟩
theorem n_c (h : PE X e (lN F d)) : PE X e (lC F d) := PE.mono h fun σ H Q ⟨env, L, P, A, p, q⟩ => ⟨env, L, P, A, p, fun x a H' px k o n dd => q x _ H' px k o (dd.dd (A.new n))⟩
theorem c_b (h : PE X e (lC F d)) : PE X e (lB F d) := PE.mono h fun σ H Q ⟨env, L, P, A, p, q⟩ => ⟨env, L, P, A, p, fun x v H' px k o dd => q x v H' px k o (.inl dd)⟩
def D.leaf : D → Bool
  | .non => true | .bl _ => true | .int _ => true | .str _ => true | _ => false
def dC (x : D) : TDE := fun _ P => P x
theorem c_lift {x : D} {v : V} (h : PE X e (tC v)) (r : ∀ K N W H, Dd K N W H v x) : PE X e (lC F (dC x)) := PE.mono h fun σ H Q ⟨env, L, P, A, p, q⟩ => q x v H p (.refl _ _) A.ok (r _ _ _ _)
theorem dd_int {i : Int} {j} {pos : Pos} : PE X (.Constant (.int i) j pos) (lC F (dC (.int i))) := c_lift pe_int fun _ _ _ _ => .int i
theorem dd_str {i : Str} {j} {pos : Pos} : PE X (.Constant (.str i) j pos) (lC F (dC (.str i))) := c_lift pe_str fun _ _ _ _ => .str i
theorem dd_bl {i : Bool} {j} {pos : Pos} : PE X (.Constant (.bool i) j pos) (lC F (dC (.bl i))) := c_lift pe_bl fun _ _ _ _ => .bl i
theorem dd_non {j} {pos : Pos} : PE X (.Constant .none j pos) (lC F (dC .non)) := c_lift pe_non fun _ _ _ _ => .non
def dV (i : Nat) : TDE := fun env P => match env[i]? with | some (.fz d) => P d | _ => False
def dB (i : Nat) : TDE := fun env P => match env[i]? with | some (.fz d) => P d | some (.ow ds) => P (.lst ds) | some (.od ds) => P (.dic ds) | some (.ot ds) => P (.dct ds) | some (.otr G ds) => P (.tr G ds) | _ => False
theorem abs_at {env : De} {σ : L2.St} {L : List Addr} {H : Hp} (A : Abs F env σ L H) {i : Nat} {e : En} (h : env[i]? = some e) (n : e ≠ .no) : ∃ v, σ[i]? = some (some v) ∧ EnOk F L H e (some v) := by
  have hi : i < σ.length := by rw [← A.ls]; exact (List.getElem?_eq_some_iff.mp h).1
  have h2 := A.en i e σ[i] h (List.getElem?_eq_getElem hi)
  cases q : σ[i] with
  | none =>
    rw [q] at h2
    cases e with
    | no => exact absurd rfl n
    | _ => exact h2.elim
  | some v =>
    rw [q] at h2
    exact ⟨v, by rw [List.getElem?_eq_getElem hi, q], h2⟩
theorem loneO {env : De} {σ : L2.St} {L : List Addr} {H : Hp} (A : Abs F env σ L H) {a : Addr} (n : H a = none) : ∀ (j : Nat) (ej : En), env[j]? = some ej → a ∉ ej.ad := fun j ej h hb => by
  cases ej with
  | oo C b fs =>
    obtain ⟨v, _, q⟩ := abs_at A h (by intro w; cases w)
    cases v with
    | ref c =>
      obtain ⟨_, u, hu, _⟩ := A.fr a (q.2.1 a hb)
      rw [n] at hu
      cases hu
    | _ => exact q.elim
  | fe e =>
    obtain ⟨v, _, q⟩ := abs_at A h (by intro w; cases w)
    obtain ⟨_, u, hu, _⟩ := A.fr a (q.1 a hb)
    rw [n] at hu
    cases hu
  | _ => cases hb
theorem dd_v {i : Nat} (h : PE X e (tVar i)) : PE X e (lC F (dV i)) := PE.mono h fun σ H Q ⟨env, L, P, A, p, q⟩ => by
  unfold dV at p
  cases z : env[i]? with
  | none => rw [z] at p; exact p.elim
  | some en =>
    rw [z] at p
    cases en with
    | fz d =>
      obtain ⟨v, h1, h2⟩ := abs_at A z (by intro w; cases w)
      exact ⟨v, h1, q d v H p (.refl _ _) A.ok h2⟩
    | _ => exact p.elim
theorem dd_b {i : Nat} (h : PE X e (tVar i)) : PE X e (lB F (dB i)) := PE.mono h fun σ H Q ⟨env, L, P, A, p, q⟩ => by
  unfold dB at p
  cases z : env[i]? with
  | none => rw [z] at p; exact p.elim
  | some en =>
    rw [z] at p
    cases en with
    | no => exact p.elim
    | oo _ _ _ => exact p.elim
    | fe _ => exact p.elim
    | fz d =>
      obtain ⟨v, h1, h2⟩ := abs_at A z (by intro w; cases w)
      exact ⟨v, h1, q d v H p (.refl _ _) A.ok (.inl h2)⟩
    | _ =>
      obtain ⟨v, h1, h2⟩ := abs_at A z (by intro w; cases w)
      exact ⟨v, h1, q _ v H p (.refl _ _) A.ok (.inr ⟨_, rfl, h2, rfl⟩)⟩
end
end DL
namespace DL
open PySem PySem.Spec PyProof.Rows L2 RK
def ob {α : Type} (o : Option α) (P : α → Prop) : Prop := match o with | some z => P z | none => False
theorem ob_some {α : Type} {z : α} {P : α → Prop} : ob (some z) P = P z := rfl
theorem ob_elim {α : Type} {o : Option α} {P : α → Prop} (h : ob o P) : ∃ z, o = some z ∧ P z := by
  cases o with
  | none => exact h.elim
  | some z => exact ⟨z, rfl, h⟩
mutual
def toPy : D → Option PyData
  | .non => some .none
  | .bl b => some (.bool b)
  | .int i => some (.int i)
  | .str x => some (.str x)
  | .lst xs => (toPyA xs).map .list
  | .tup xs => (toPyA xs).map .tuple
  | _ => none
def toPyA : List D → Option (List PyData)
  | [] => some []
  | d :: ds => (toPy d).bind fun p => (toPyA ds).map fun ps => p :: ps
end
section
variable {K : PySem.W.Frag} {N : Addr → Prop} {W : Wd} {H H' : Hp}
mutual
theorem Dd.py : ∀ {v : V} {d : D} {p : PyData}, Dd K N W H v d → toPy d = some p → Dp K H v p
  | _, _, _, .non, e => by cases Option.some.inj e; exact .non
  | _, _, _, .bl b, e => by cases Option.some.inj e; exact .bl b
  | _, _, _, .int i, e => by cases Option.some.inj e; exact .int i
  | _, _, _, .str x, e => by cases Option.some.inj e; exact .str x
  | _, _, _, .lst h _ a, e => by
    obtain ⟨ps, h1, h2⟩ := Option.map_eq_some_iff.mp e
    subst h2
    exact .lst (SqL.of h) (DdAll.py a h1)
  | _, _, _, .tup h _ a, e => by
    obtain ⟨ps, h1, h2⟩ := Option.map_eq_some_iff.mp e
    subst h2
    exact .tup (SqT.of h) (DdAll.py a h1)
  | _, _, _, .ktp .., e => by cases e
  | _, _, _, .dic .., e => by cases e
  | _, _, _, .dct .., e => by cases e
  | _, _, _, .obj .., e => by cases e
  | _, _, _, .bag .., e => by cases e
  | _, _, _, .fn .., e => by cases e
theorem DdAll.py : ∀ {vs : List V} {ds : List D} {ps : List PyData}, DdAll K N W H vs ds → toPyA ds = some ps → DpAll K H vs ps
  | _, _, _, .nil, e => by cases Option.some.inj e; exact .nil
  | _, _, _, .cons h a, e => by
    obtain ⟨p, h1, h2⟩ := Option.bind_eq_some_iff.mp e
    obtain ⟨ps, h3, h4⟩ := Option.map_eq_some_iff.mp h2
    subst h4
    exact .cons (Dd.py h h1) (DdAll.py a h3)
end
theorem dd_intE {v : V} {i : Int} (h : Dd K N W H v (.int i)) : v = .int i := by cases h; rfl
theorem dd_strE {v : V} {i : Str} (h : Dd K N W H v (.str i)) : v = .str i := by cases h; rfl
theorem dd_blE {v : V} {i : Bool} (h : Dd K N W H v (.bl i)) : v = .bl i := by cases h; rfl
theorem dd_nonE {v : V} (h : Dd K N W H v .non) : v = .non := by cases h; rfl
theorem dd_lstE {v : V} {ds : List D} (h : Dd K N W H v (.lst ds)) : ∃ a vs, v = .ref a ∧ H a = some (.lst vs) ∧ ¬ N a ∧ DdAll K N W H vs ds := by cases h with | lst h1 h2 h3 => exact ⟨_, _, rfl, h1, h2, h3⟩
theorem dd_tupE {v : V} {ds : List D} (h : Dd K N W H v (.tup ds)) : ∃ a vs, v = .ref a ∧ H a = some (.tup vs) ∧ ¬ N a ∧ DdAll K N W H vs ds := by cases h with | tup h1 h2 h3 => exact ⟨_, _, rfl, h1, h2, h3⟩
end
section
variable {F : Fx} {env : De} {σ : L2.St} {L : List Addr} {H H' : Hp}
theorem bw_leaf {v : V} {x : D} (h : Bw F L H v x) (l : x.leaf = true) : Dd F.K (F.N L) F.W H v x := by
  rcases h with h | ⟨e, h1, h2, rfl⟩
  · exact h
  · cases e with
    | no => cases h1
    | fz _ => cases h1
    | oo _ _ _ => cases h1
    | fe _ => cases h1
    | ow _ => cases l
    | od _ => cases l
    | ot _ => cases l
    | otr _ _ => cases l
theorem bw_int {v : V} {i : Int} (h : Bw F L H v (.int i)) : v = .int i := dd_intE (bw_leaf h rfl)
theorem bw_str {v : V} {i : Str} (h : Bw F L H v (.str i)) : v = .str i := dd_strE (bw_leaf h rfl)
theorem bw_bl {v : V} {i : Bool} (h : Bw F L H v (.bl i)) : v = .bl i := dd_blE (bw_leaf h rfl)
theorem bw_non {v : V} (h : Bw F L H v .non) : v = .non := dd_nonE (bw_leaf h rfl)
theorem bw_lst {v : V} {ds : List D} (h : Bw F L H v (.lst ds)) : ∃ a vs, v = .ref a ∧ H a = some (.lst vs) ∧ DdAll F.K (F.N L) F.W H vs ds := by
  rcases h with h | ⟨e, h1, h2, h3⟩
  · obtain ⟨a, vs, h1, h2, _, h3⟩ := dd_lstE h
    exact ⟨a, vs, h1, h2, h3⟩
  · cases e with
    | ow es =>
      cases h3
      cases v with
      | ref a => exact ⟨a, h2.2.choose, rfl, h2.2.choose_spec⟩
      | _ => exact h2.elim
    | no => cases h1
    | fz _ => cases h1
    | oo _ _ _ => cases h1
    | fe _ => cases h1
    | od _ => cases h3
    | ot _ => cases h3
    | otr _ _ => cases h3
theorem bw_tup {v : V} {ds : List D} (h : Bw F L H v (.tup ds)) : ∃ a vs, v = .ref a ∧ H a = some (.tup vs) ∧ DdAll F.K (F.N L) F.W H vs ds := by
  rcases h with h | ⟨e, h1, h2, h3⟩
  · obtain ⟨a, vs, h1, h2, _, h3⟩ := dd_tupE h
    exact ⟨a, vs, h1, h2, h3⟩
  · cases e with
    | no => cases h1
    | fz _ => cases h1
    | oo _ _ _ => cases h1
    | fe _ => cases h1
    | ow _ => cases h3
    | od _ => cases h3
    | ot _ => cases h3
    | otr _ _ => cases h3
theorem bw_dic {v : V} {ds : List (Key × D)} (h : Bw F L H v (.dic ds)) : ∃ a kvs, v = .ref a ∧ Rd H a (.dK kvs) ∧ kvs.map (·.1) = ds.map (·.1) ∧ DdAll F.K (F.N L) F.W H (kvs.map (·.2)) (ds.map (·.2)) := by
  rcases h with h | ⟨e, h1, h2, h3⟩
  · cases h with | dic g1 g2 g3 g4 => exact ⟨_, _, rfl, g1, g3, g4⟩
  · cases e with
    | od es =>
      cases h3
      cases v with
      | ref a =>
        obtain ⟨_, kvs, g1, g2, g3⟩ := h2
        exact ⟨a, kvs, rfl, .inl g1, g2, g3⟩
      | _ => exact h2.elim
    | no => cases h1
    | fz _ => cases h1
    | oo _ _ _ => cases h1
    | fe _ => cases h1
    | ow _ => cases h3
    | ot _ => cases h3
    | otr _ _ => cases h3
theorem bw_dct {v : V} {ds : List (List Key × D)} (h : Bw F L H v (.dct ds)) : ∃ a kvs, v = .ref a ∧ Rd H a (.dT kvs) ∧ kvs.map (·.1) = ds.map (·.1) ∧ DdAll F.K (F.N L) F.W H (kvs.map (·.2)) (ds.map (·.2)) := by
  rcases h with h | ⟨e, h1, h2, h3⟩
  · cases h with | dct g1 g2 g3 g4 => exact ⟨_, _, rfl, g1, g3, g4⟩
  · cases e with
    | ot es =>
      cases h3
      cases v with
      | ref a =>
        obtain ⟨_, kvs, g1, g2, g3⟩ := h2
        exact ⟨a, kvs, rfl, .inl g1, g2, g3⟩
      | _ => exact h2.elim
    | no => cases h1
    | fz _ => cases h1
    | oo _ _ _ => cases h1
    | fe _ => cases h1
    | ow _ => cases h3
    | od _ => cases h3
    | otr _ _ => cases h3
theorem bw_py {v : V} {d : D} {p : PyData} (h : Bw F L H v d) (e : toPy d = some p) : Dp F.K H v p := by
  rcases h with h | ⟨en, h1, h2, h3⟩
  · exact h.py e
  · cases en with
    | ow es =>
      have hh : Bw F L H v (.lst es) := .inr ⟨.ow es, rfl, h2, rfl⟩
      obtain ⟨a, vs, rfl, g2, g3⟩ := bw_lst hh
      subst h3
      obtain ⟨ps, h1, h2⟩ := Option.map_eq_some_iff.mp e
      subst h2
      exact .lst (SqL.of g2) (g3.py h1)
    | no => cases h1
    | fz _ => cases h1
    | oo _ _ _ => cases h1
    | fe _ => cases h1
    | od _ => subst h3; cases e
    | ot _ => subst h3; cases e
    | otr _ _ => subst h3; cases e
theorem Bw.step (A : Abs F env σ L H) (k : KeepW F.W H H') {v : V} {x : D} (h : Bw F L H v x) : Bw F L H' v x := by
  rcases h with h | ⟨e, h1, h2, h3⟩
  · exact .inl (A.kd k h)
  · have w : ∀ a ∈ L, ¬ F.W.own a := fun a h z => A.out h (A.wn a z)
    exact .inr ⟨e, h1, EnOk.keep A (k.n A) (fun _ z => z) (fun a _ _ h => ⟨h, fun o q => k a o (w a h) q⟩) (fun b hb => by rw [ad_ow h1] at hb; cases hb) h2, h3⟩
theorem new_pres (A : Abs F env σ L H) {p : Addr} {o : HO} (hp : H p = none) {vs : List V} {ds : List D} (h : DdAll F.K (F.N L) F.W H vs ds) : DdAll F.K (F.N (p :: L)) F.W (upd H p o) vs ds := h.pres fun a u n g => by
  have ne : a ≠ p := ne_of_none g hp
  refine ⟨fun z => ?_, by rw [upd_ne ne]; exact g⟩
  rcases z with z | z
  · exact n (.inl z)
  · rcases List.mem_cons.mp z with z | z
    · exact ne z
    · exact n (.inr z)
theorem new_lstN (A : Abs F env σ L H) {p : Addr} (hp : H p = none) {vs : List V} {ds : List D} (h : DdAll F.K (F.N L) F.W H vs ds) : NewV F L (upd H p (.lst vs)) p (.lst ds) := ⟨vs, upd_same, new_pres A hp h⟩
theorem new_tupN (A : Abs F env σ L H) {p : Addr} (hp : H p = none) {vs : List V} {ds : List D} (h : DdAll F.K (F.N L) F.W H vs ds) : NewV F L (upd H p (.tup vs)) p (.tup ds) := ⟨vs, upd_same, new_pres A hp h⟩
theorem new_lst (A : Abs F env σ L H) {p : Addr} (hp : H p = none) {vs : List V} {ds : List D} (h : DdAll F.K (F.N L) F.W H vs ds) : Dd F.K (F.N L) F.W (upd H p (.lst vs)) (.ref p) (.lst ds) := .lst upd_same (A.new hp) (A.kda (KeepW.new hp) h)
theorem new_tup (A : Abs F env σ L H) {p : Addr} (hp : H p = none) {vs : List V} {ds : List D} (h : DdAll F.K (F.N L) F.W H vs ds) : Dd F.K (F.N L) F.W (upd H p (.tup vs)) (.ref p) (.tup ds) := .tup upd_same (A.new hp) (A.kda (KeepW.new hp) h)
end
abbrev B2 := D → D → Option D
def Op2 (F : Fx) (r : R2) (f : B2) : Prop := ∀ {env : De} {σ : L2.St} {L : List Addr} {H : Hp} {x y : V} {dx dy z : D}, Abs F env σ L H → Bw F L H x dx → Bw F L H y dy → f dx dy = some z →
  ∀ Q : VK, (∀ v H', KeepW F.W H H' → F.W.ok H' → Dd F.K (F.N L) F.W H' v z → Q v H') → r x y H Q
def Op2N (F : Fx) (r : R2) (f : B2) : Prop := ∀ {env : De} {σ : L2.St} {L : List Addr} {H : Hp} {x y : V} {dx dy z : D}, Abs F env σ L H → Bw F L H x dx → Bw F L H y dy → f dx dy = some z →
  ∀ Q : VK, (∀ a H', KeepW F.W H H' → F.W.ok H' → H a = none → NewV F L H' a z → Q (.ref a) H') → r x y H Q
def dO2 (f : B2) (da db : TDE) : TDE := fun env P => da env fun x => db env fun y => ob (f x y) P
section
variable {X : Cx} {F : Fx} {e a b c : Expr} {d da db dc : TDE} {pos : Pos} {f g : B2} {r r' : R2}
theorem lop2 (h : Op2 F r f) : ∀ σ H Q, lC F (dO2 f da db) σ H Q → tOp r (lB F da) (lB F db) σ H Q := fun σ H Q ⟨env, L, P, A, p, q⟩ =>
  ⟨env, L, _, A, p, fun x v H1 px k1 o1 b1 => ⟨env, L, _, A.step k1 o1, px, fun y u H2 py k2 o2 b2 => by
    obtain ⟨z, e, pz⟩ := ob_elim py
    exact h ((A.step k1 o1).step k2 o2) (b1.step (A.step k1 o1) k2) b2 e Q fun w H3 k3 o3 d3 => q z w H3 pz ((k1.trans k2).trans k3) o3 d3⟩⟩
theorem dd_op {op : Operator} (h : Op2 F r f) (ho : OpR X (binaryOp op) r) (ha : PE X a (lB F da)) (hb : PE X b (lB F db)) : PE X (.BinOp a op b pos) (lC F (dO2 f da db)) := PE.mono (pe_op ho ha hb) (lop2 h)
theorem dd_cmp {op : CmpOp} (h : Op2 F r f) (ho : OpR X (compareOp op) r) (ha : PE X a (lB F da)) (hb : PE X b (lB F db)) (hm : behindInMarks op b = false) : PE X (.Compare a [op] [b] pos) (lC F (dO2 f da db)) := PE.mono (pe_cmpR ho ha hb hm) (lop2 h)
def dT (d : TDE) : TDT := fun env P => d env fun x => match x with | .bl b => P b | _ => False
theorem l_test : ∀ σ H Q, lT F (dT d) σ H Q → tTest (lC F d) σ H Q := fun σ H Q ⟨env, L, P, A, p, q⟩ =>
  ⟨env, L, _, A, p, fun x v H1 px k1 o1 d1 => by
    cases x with
    | bl b => cases d1; exact ⟨b, rfl, q b H1 px k1 o1⟩
    | _ => exact px.elim⟩
theorem dt_val (h : PE X e (lC F d)) (he : ∀ whole, isTrue e X.env whole = (do let v ← whole; standAt e.pos; holding [v] (truthy v)) := by intro _; rfl) : PT X e (lT F (dT d)) := PT.mono (pt_val h he) fun σ H Q q => l_test σ H Q q
theorem dt_cmp {op : CmpOp} (h : Op2 F r f) (ho : OpR X (compareOp op) r) (ha : PE X a (lB F da)) (hb : PE X b (lB F db)) (hm : behindInMarks op b = false) : PT X (.Compare a [op] [b] pos) (lT F (dT (dO2 f da db))) :=
  PT.mono (pt_cmpR ho ha hb hm) fun σ H Q ⟨env, L, P, A, p, q⟩ => lop2 h σ H _ ⟨env, L, _, A, p, fun x v H1 px k1 o1 d1 => by
    cases x with
    | bl b => cases d1; exact ⟨b, rfl, q b H1 px k1 o1⟩
    | _ => exact px.elim⟩
def dAndT (t u : TDT) : TDT := fun env P => t env fun x => if x = true then u env P else P false
def dOrT (t u : TDT) : TDT := fun env P => t env fun x => if x = true then P true else u env P
def dNotT (t : TDT) : TDT := fun env P => t env fun x => P (!x)
variable {tA tB : TDT} {rest : List Expr}
theorem wt_and1 (ha : PT X a (lT F tA)) : PW X (.BoolOp .And [a] pos) (lT F tA) := pw_and1 ha
theorem wt_or1 (ha : PT X a (lT F tA)) : PW X (.BoolOp .Or [a] pos) (lT F tA) := pw_or1 ha
theorem wt_and (ha : PT X a (lT F tA)) (hb : PW X (.BoolOp .And (b :: rest) pos) (lT F tB)) : PW X (.BoolOp .And (a :: b :: rest) pos) (lT F (dAndT tA tB)) :=
  PW.mono (pw_and ha hb) fun σ H Q ⟨env, L, P, A, p, q⟩ => ⟨env, L, _, A, p, fun x H1 px k1 o1 => by
    cases x with
    | true => exact iteT ⟨env, L, _, A.step k1 o1, px, fun y H2 py k2 o2 => q y H2 py (k1.trans k2) o2⟩
    | false => exact iteF (q false H1 px k1 o1)⟩
theorem wt_or (ha : PT X a (lT F tA)) (hb : PW X (.BoolOp .Or (b :: rest) pos) (lT F tB)) : PW X (.BoolOp .Or (a :: b :: rest) pos) (lT F (dOrT tA tB)) :=
  PW.mono (pw_or ha hb) fun σ H Q ⟨env, L, P, A, p, q⟩ => ⟨env, L, _, A, p, fun x H1 px k1 o1 => by
    cases x with
    | false => exact iteF ⟨env, L, _, A.step k1 o1, px, fun y H2 py k2 o2 => q y H2 py (k1.trans k2) o2⟩
    | true => exact iteT (q true H1 px k1 o1)⟩
theorem dt_not (ha : PT X a (lT F tA)) : PT X (.UnaryOp .Not a pos) (lT F (dNotT tA)) :=
  PT.mono (pt_not ha) fun σ H Q ⟨env, L, P, A, p, q⟩ => ⟨env, L, _, A, p, fun x H1 px k1 o1 => q (!x) H1 px k1 o1⟩
def dIf (t : TDT) (da db : TDE) : TDE := fun env P => t env fun x => if x = true then da env P else db env P
theorem dd_if (hc : PT X c (lT F tA)) (ha : PE X a (lC F da)) (hb : PE X b (lC F db)) : PE X (.IfExp c a b pos) (lC F (dIf tA da db)) :=
  PE.mono (pe_ifExp hc ha hb) fun σ H Q ⟨env, L, P, A, p, q⟩ => ⟨env, L, _, A, p, fun x H1 px k1 o1 => by
    cases x with
    | false => exact iteF ⟨env, L, _, A.step k1 o1, px, fun y v H2 py k2 o2 d2 => q y v H2 py (k1.trans k2) o2 d2⟩
    | true => exact iteT ⟨env, L, _, A.step k1 o1, px, fun y v H2 py k2 o2 d2 => q y v H2 py (k1.trans k2) o2 d2⟩⟩
def dAndV (da db : TDE) : TDE := fun env P => da env fun x => match x with | .bl b => if b = true then db env P else P (.bl false) | _ => False
def dOrV (da db : TDE) : TDE := fun env P => da env fun x => match x with | .bl b => if b = true then P (.bl true) else db env P | _ => False
def dNotV (da : TDE) : TDE := fun env P => da env fun x => match x with | .bl b => P (.bl (!b)) | _ => False
theorem dd_one {op} (ha : PE X a (lC F da)) : PE X (.BoolOp op [a] pos) (lC F da) := pe_one ha
theorem dd_and (ha : PE X a (lC F da)) (hb : PE X (.BoolOp .And (b :: rest) pos) (lC F db)) : PE X (.BoolOp .And (a :: b :: rest) pos) (lC F (dAndV da db)) :=
  PE.mono (pe_and ha hb) fun σ H Q ⟨env, L, P, A, p, q⟩ => ⟨env, L, _, A, p, fun x v H1 px k1 o1 d1 => by
    cases x with
    | bl b =>
      cases d1
      refine ⟨b, rfl, ?_⟩
      cases b with
      | true => exact iteT ⟨env, L, _, A.step k1 o1, px, fun y v H2 py k2 o2 d2 => q y v H2 py (k1.trans k2) o2 d2⟩
      | false => exact iteF (q _ _ H1 px k1 o1 (.bl false))
    | _ => exact px.elim⟩
end
end DL
namespace DL
open PySem PySem.Spec PyProof.Rows L2 RK
theorem guard_elim {α : Type} {c : Prop} [Decidable c] {x z : α} (h : (if c then some x else none) = some z) : c ∧ x = z := by
  by_cases hc : c
  · rw [if_pos hc] at h
    exact ⟨hc, Option.some.inj h⟩
  · rw [if_neg hc] at h
    cases h
section
variable {X : Cx} {F : Fx} {e a b c : Expr} {d da db dc : TDE} {pos : Pos}
theorem Op2.or {r r' : R2} {f g : B2} (h : Op2 F r f) (h' : Op2 F r' g) : Op2 F (fun x y H Q => r x y H Q ∨ r' x y H Q) (fun x y => (f x y).or (g x y)) := fun A bx byy e Q q => by
  rename_i dx dy z
  replace e : (f dx dy).or (g dx dy) = some z := e
  cases hf : f dx dy with
  | some z' =>
    rw [hf] at e
    exact .inl (h A bx byy (hf.trans e) Q q)
  | none =>
    rw [hf] at e
    exact .inr (h' A bx byy e Q q)
def iI (C : Int → Int → Bool) (g : Int → Int → D) : B2
  | .int i, .int j => if C i j = true then some (g i j) else none
  | _, _ => none
theorem iI_ok {C : Int → Int → Bool} {C' : Int → Int → Prop} {g : Int → Int → D} {gV : Int → Int → V} (hC : ∀ i j, C i j = true → C' i j) (hg : ∀ i j K N W H, Dd K N W H (gV i j) (g i j)) : Op2 F (rI C' gV) (iI C g) := fun A bx byy e Q q => by
  rename_i dx dy z
  cases dx <;> try cases e
  cases dy <;> try cases e
  rename_i i j
  have hx := bw_int bx
  have hy := bw_int byy
  subst hx hy
  obtain ⟨hc, rfl⟩ := guard_elim e
  exact ⟨i, j, rfl, rfl, hC i j hc, q _ _ (.refl _ _) A.ok (hg i j _ _ _ _)⟩
def iI0 (g : Int → Int → D) : B2
  | .int i, .int j => some (g i j)
  | _, _ => none
theorem iI0_ok {g : Int → Int → D} {gV : Int → Int → V} (hg : ∀ i j K N W H, Dd K N W H (gV i j) (g i j)) : Op2 F (rI0 gV) (iI0 g) := fun A bx byy e Q q => by
  rename_i dx dy z
  cases dx <;> try cases e
  cases dy <;> try cases e
  rename_i i j
  have hx := bw_int bx
  have hy := bw_int byy
  subst hx hy
  exact ⟨i, j, rfl, rfl, q _ _ (.refl _ _) A.ok (hg i j _ _ _ _)⟩
def bCat : B2
  | .lst xs, .lst ys => if xs.length + ys.length ≤ sizeLine then some (.lst (xs ++ ys)) else none
  | _, _ => none
theorem cat_okN : Op2N F rCat bCat := fun A bx byy e Q q => by
  rename_i dx dy z
  cases dx <;> try cases e
  cases dy <;> try cases e
  rename_i xs ys
  obtain ⟨l, vs, rfl, h1, h2⟩ := bw_lst bx
  obtain ⟨m, us, rfl, h3, h4⟩ := bw_lst byy
  obtain ⟨hc, rfl⟩ := guard_elim e
  exact ⟨l, m, vs, us, rfl, rfl, h1, h3, by rw [h2.len, h4.len]; exact hc, fun p hp => q p _ (.new hp) (ok_new A.ok hp) hp (new_lstN A hp (h2.app h4))⟩
theorem op2n_c {r : R2} {f : B2} (h : Op2N F r f) : Op2 F r f := fun A bx byy e Q q => h A bx byy e Q fun a H' k o n d => q _ _ k o (d.dd (A.new n))
def bCatS : B2
  | .str x, .str y => if x.length + y.length ≤ sizeLine then some (.str (x ++ y)) else none
  | _, _ => none
theorem catS_ok : Op2 F (fun x y H Q => ∃ i j, x = .str i ∧ y = .str j ∧ i.length + j.length ≤ sizeLine ∧ Q (.str (i ++ j)) H) bCatS := fun A bx byy e Q q => by
  rename_i dx dy z
  cases dx <;> try cases e
  cases dy <;> try cases e
  rename_i xs ys
  have hx := bw_str bx
  have hy := bw_str byy
  subst hx hy
  obtain ⟨hc, rfl⟩ := guard_elim e
  exact ⟨xs, ys, rfl, rfl, hc, q _ _ (.refl _ _) A.ok (.str _)⟩
def bRep : B2
  | .lst xs, .int k => if -(2 ^ 63) ≤ k ∧ k < 2 ^ 63 ∧ xs.length * k.toNat ≤ sizeLine then some (.lst (List.replicate k.toNat xs).flatten) else none
  | _, _ => none
theorem DdAll.rep {K : PySem.W.Frag} {N : Addr → Prop} {W : Wd} {H : Hp} {vs : List V} {ds : List D} (h : DdAll K N W H vs ds) : ∀ n : Nat, DdAll K N W H (List.replicate n vs).flatten (List.replicate n ds).flatten
  | 0 => .nil
  | n + 1 => by
    rw [List.replicate_succ, List.replicate_succ, List.flatten_cons, List.flatten_cons]
    exact h.app (DdAll.rep h n)
def bAdd : B2 := fun x y => (iI0 (fun i j => .int (i + j)) x y).or ((bCatS x y).or (bCat x y))
theorem dd_add (ha : PE X a (lB F da)) (hb : PE X b (lB F db)) : PE X (.BinOp a .Add b pos) (lC F (dO2 bAdd da db)) :=
  dd_op (Op2.or (iI0_ok fun i j _ _ _ _ => .int _) (Op2.or catS_ok (op2n_c cat_okN))) (op_add.or (op_add_str.or op_cat)) ha hb
def bSub : B2 := iI0 fun i j => .int (i - j)
theorem dd_sub (ha : PE X a (lB F da)) (hb : PE X b (lB F db)) : PE X (.BinOp a .Sub b pos) (lC F (dO2 bSub da db)) := dd_op (iI0_ok fun i j _ _ _ _ => .int _) op_sub ha hb
def bMod : B2 := iI (fun _ j => decide (0 < j)) fun i j => .int (i % j)
theorem dd_mod (ha : PE X a (lB F da)) (hb : PE X b (lB F db)) : PE X (.BinOp a .Mod b pos) (lC F (dO2 bMod da db)) := dd_op (iI_ok (fun i j h => of_decide_eq_true h) fun i j _ _ _ _ => .int _) op_mod ha hb
def bPow : B2 := iI (fun i j => decide (0 ≤ j ∧ j ≤ 1000000 ∧ i.natAbs < 2 ^ 64)) fun i j => .int (i ^ j.toNat)
theorem dd_pow (ha : PE X a (lB F da)) (hb : PE X b (lB F db)) : PE X (.BinOp a .Pow b pos) (lC F (dO2 bPow da db)) := dd_op (iI_ok (C' := CPow) (fun i j h => by have h' := of_decide_eq_true h; exact h') fun i j _ _ _ _ => .int _) op_pow ha hb
def bMulI : B2 := iI (fun i j => decide ((-(2 ^ 64) < i ∧ i < 2 ^ 64) ∨ (-(2 ^ 64) < j ∧ j < 2 ^ 64))) fun i j => .int (i * j)
theorem rep_okN : Op2N F rRep bRep := fun A bx byy e Q q => by
  rename_i dx dy z
  cases dx <;> try cases e
  cases dy <;> try cases e
  rename_i xs k
  obtain ⟨l, vs, rfl, h1, h2⟩ := bw_lst bx
  have hy := bw_int byy
  subst hy
  obtain ⟨hc, rfl⟩ := guard_elim e
  exact ⟨l, k, vs, rfl, rfl, h1, hc.1, hc.2.1, by rw [h2.len]; exact hc.2.2, fun p hp => q p _ (.new hp) (ok_new A.ok hp) hp (new_lstN A hp (h2.rep _))⟩
def bRepS : B2
  | .str x, .int n => match x.cps.toList with | [c] => if 1 ≤ n ∧ n ≤ 1000 then some (.str (PySem.Txt.mul ⟨#[c]⟩ n)) else none | _ => none
  | _, _ => none
theorem repS_ok : Op2 F (fun x y H Q => ∃ (c : Nat) (n : Int), x = .str ⟨#[c]⟩ ∧ y = .int n ∧ 1 ≤ n ∧ n ≤ 1000 ∧ Q (.str (PySem.Txt.mul ⟨#[c]⟩ n)) H) bRepS := fun A bx byy e Q q => by
  rename_i dx dy z
  cases dx <;> try cases e
  cases dy <;> try cases e
  rename_i x n
  have hx := bw_str bx
  have hy := bw_int byy
  subst hx hy
  obtain ⟨⟨l⟩⟩ := x
  match l, e with
  | [c], e =>
    obtain ⟨hc, rfl⟩ := guard_elim e
    exact ⟨c, n, rfl, rfl, hc.1, hc.2, q _ _ (.refl _ _) A.ok (.str _)⟩
  | [], e => cases e
  | _ :: _ :: _, e => cases e
def bMul : B2 := fun x y => (bMulI x y).or ((bRep x y).or (bRepS x y))
theorem dd_mul (ha : PE X a (lB F da)) (hb : PE X b (lB F db)) : PE X (.BinOp a .Mult b pos) (lC F (dO2 bMul da db)) :=
  dd_op (Op2.or (iI_ok (C' := CMul) (fun i j h => by have h' := of_decide_eq_true h; exact h') fun i j _ _ _ _ => .int _) (Op2.or (op2n_c rep_okN) repS_ok)) (op_mul.or (op_rep.or op_mul_str)) ha hb
def bLtS : B2
  | .str x, .str y => some (.bl (decide (x.cps.toList < y.cps.toList)))
  | _, _ => none
theorem ltS_ok : Op2 F (fun x y H Q => ∃ i j, x = .str i ∧ y = .str j ∧ Q (.bl (decide (i.cps.toList < j.cps.toList))) H) bLtS := fun A bx byy e Q q => by
  rename_i dx dy z
  cases dx <;> try cases e
  cases dy <;> try cases e
  have hx := bw_str bx
  have hy := bw_str byy
  subst hx hy
  exact ⟨_, _, rfl, rfl, q _ _ (.refl _ _) A.ok (.bl _)⟩
def bLt : B2 := fun x y => (iI0 (fun i j => .bl (decide (i < j))) x y).or (bLtS x y)
theorem dd_lt (ha : PE X a (lB F da)) (hb : PE X b (lB F db)) : PE X (.Compare a [.Lt] [b] pos) (lC F (dO2 bLt da db)) := dd_cmp (Op2.or (iI0_ok fun i j _ _ _ _ => .bl _) ltS_ok) (op_lt.or op_lt_str) ha hb (nomark _)
theorem dt_lt (ha : PE X a (lB F da)) (hb : PE X b (lB F db)) : PT X (.Compare a [.Lt] [b] pos) (lT F (dT (dO2 bLt da db))) := dt_cmp (Op2.or (iI0_ok fun i j _ _ _ _ => .bl _) ltS_ok) (op_lt.or op_lt_str) ha hb (nomark _)
def bLe : B2 := iI0 fun i j => .bl (decide (i ≤ j))
def bGt : B2 := iI0 fun i j => .bl (decide (j < i))
theorem dt_gt (ha : PE X a (lB F da)) (hb : PE X b (lB F db)) : PT X (.Compare a [.Gt] [b] pos) (lT F (dT (dO2 bGt da db))) := dt_cmp (iI0_ok fun i j _ _ _ _ => .bl _) op_gt ha hb (nomark _)
def eqS (neg : Bool) : B2
  | .int i, .int j => some (.bl (neg ^^ decide (i = j)))
  | .str i, .str j => some (.bl (neg ^^ decide (i = j)))
  | .bl i, .bl j => some (.bl (neg ^^ decide (i = j)))
  | _, _ => none
def eqP (neg : Bool) : B2 := fun x y => match toPy x, toPy y with
  | some p, some q => if SeqAt.shaped p = true ∧ SeqAt.shaped q = true then some (.bl (neg ^^ PyData.eqv p q)) else none
  | _, _ => none
def bEqN (neg : Bool) : B2 := fun x y => (eqS neg x y).or (eqP neg x y)
theorem eqS_ok : Op2 F rEq (eqS false) := fun A bx byy e Q q => by
  rename_i dx dy z
  cases dx <;> try cases e
  all_goals cases dy <;> try cases e
  · have hx := bw_bl bx
    have hy := bw_bl byy
    subst hx hy
    exact ⟨rfl, by simpa using q (.bl _) _ (.refl _ _) A.ok (.bl _)⟩
  · have hx := bw_int bx
    have hy := bw_int byy
    subst hx hy
    exact ⟨rfl, by simpa using q (.bl _) _ (.refl _ _) A.ok (.bl _)⟩
  · have hx := bw_str bx
    have hy := bw_str byy
    subst hx hy
    exact ⟨rfl, by simpa using q (.bl _) _ (.refl _ _) A.ok (.bl _)⟩
theorem neS_ok : Op2 F rNe (eqS true) := fun A bx byy e Q q => by
  rename_i dx dy z
  cases dx <;> try cases e
  all_goals cases dy <;> try cases e
  · have hx := bw_bl bx
    have hy := bw_bl byy
    subst hx hy
    exact ⟨rfl, by simpa using q (.bl _) _ (.refl _ _) A.ok (.bl _)⟩
  · have hx := bw_int bx
    have hy := bw_int byy
    subst hx hy
    exact ⟨rfl, by simpa using q (.bl _) _ (.refl _ _) A.ok (.bl _)⟩
  · have hx := bw_str bx
    have hy := bw_str byy
    subst hx hy
    exact ⟨rfl, by simpa using q (.bl _) _ (.refl _ _) A.ok (.bl _)⟩
theorem eqP_elim {neg : Bool} {dx dy z : D} (e : eqP neg dx dy = some z) : ∃ p q, toPy dx = some p ∧ toPy dy = some q ∧ SeqAt.shaped p = true ∧ SeqAt.shaped q = true ∧ z = .bl (neg ^^ PyData.eqv p q) := by
  unfold eqP at e
  cases h1 : toPy dx with
  | none => rw [h1] at e; cases e
  | some p =>
    cases h2 : toPy dy with
    | none => rw [h1, h2] at e; cases e
    | some q =>
      rw [h1, h2] at e
      by_cases hc : SeqAt.shaped p = true ∧ SeqAt.shaped q = true
      · simp only [if_pos hc] at e
        cases e
        exact ⟨p, q, rfl, rfl, hc.1, hc.2, rfl⟩
      · simp only [if_neg hc] at e
        cases e
theorem eqP_ok : Op2 F (rEqD F.K) (eqP false) := fun A bx byy e Q q => by
  obtain ⟨p1, p2, h1, h2, s1, s2, rfl⟩ := eqP_elim e
  exact ⟨p1, p2, bw_py bx h1, bw_py byy h2, s1, s2, q _ _ (.refl _ _) A.ok (by rw [Bool.false_xor]; exact .bl _)⟩
theorem neP_ok : Op2 F (rNeD F.K) (eqP true) := fun A bx byy e Q q => by
  obtain ⟨p1, p2, h1, h2, s1, s2, rfl⟩ := eqP_elim e
  exact ⟨p1, p2, bw_py bx h1, bw_py byy h2, s1, s2, q _ _ (.refl _ _) A.ok (by rw [Bool.true_xor]; exact .bl _)⟩
variable {k : Nat}
theorem eqR (hr : Room k X.A) (hK : F.K = X.K) : OpR X (compareOp .Eq) (fun x y H Q => rEq x y H Q ∨ rEqD F.K x y H Q) := by
  rw [hK]
  exact op_eq.or (op_eqD hr.units)
theorem neR (hr : Room k X.A) (hK : F.K = X.K) : OpR X (compareOp .NotEq) (fun x y H Q => rNe x y H Q ∨ rNeD F.K x y H Q) := by
  rw [hK]
  exact op_ne.or (op_neD hr.units)
theorem dd_eq (hr : Room k X.A) (ha : PE X a (lB F da)) (hb : PE X b (lB F db)) (hK : F.K = X.K := by rfl) : PE X (.Compare a [.Eq] [b] pos) (lC F (dO2 (bEqN false) da db)) := dd_cmp (Op2.or eqS_ok eqP_ok) (eqR hr hK) ha hb (nomark _)
theorem dt_eq (hr : Room k X.A) (ha : PE X a (lB F da)) (hb : PE X b (lB F db)) (hK : F.K = X.K := by rfl) : PT X (.Compare a [.Eq] [b] pos) (lT F (dT (dO2 (bEqN false) da db))) := dt_cmp (Op2.or eqS_ok eqP_ok) (eqR hr hK) ha hb (nomark _)
theorem dt_ne (hr : Room k X.A) (ha : PE X a (lB F da)) (hb : PE X b (lB F db)) (hK : F.K = X.K := by rfl) : PT X (.Compare a [.NotEq] [b] pos) (lT F (dT (dO2 (bEqN true) da db))) := dt_cmp (Op2.or neS_ok neP_ok) (neR hr hK) ha hb (nomark _)
end
end DL
namespace DL
open PySem PySem.Spec PyProof.Rows L2 RK
def valD {κ : Type} [DecidableEq κ] (kds : List (κ × D)) (k : κ) : Option D := (kds.find? fun kv => decide (kv.1 = k)).map (·.2)
def putD {κ : Type} [DecidableEq κ] (kds : List (κ × D)) (k : κ) (v : D) : List (κ × D) :=
  if (kds.any fun kv => decide (kv.1 = k)) = true then kds.map (fun kv => if kv.1 = k then (kv.1, v) else kv) else kds ++ [(k, v)]
section
variable {K : PySem.W.Frag} {N : Addr → Prop} {W : Wd} {H H' : Hp} {κ : Type} [DecidableEq κ]
theorem val_rel {k : κ} : ∀ {kvs : List (κ × V)} {kds : List (κ × D)}, kvs.map (·.1) = kds.map (·.1) → DdAll K N W H (kvs.map (·.2)) (kds.map (·.2)) →
    (valV kvs k = none ∧ valD kds k = none) ∨ ∃ v d, valV kvs k = some v ∧ valD kds k = some d ∧ Dd K N W H v d
  | [], [], _, _ => .inl ⟨rfl, rfl⟩
  | [], _ :: _, e, _ => by cases e
  | _ :: _, [], e, _ => by cases e
  | (k1, v) :: kvs, (k2, d) :: kds, e, .cons h a => by
    have e1 : k1 = k2 := (List.cons.inj e).1
    have e2 := (List.cons.inj e).2
    subst e1
    by_cases hk : k1 = k
    · exact .inr ⟨v, d, by simp [valV, hk], by simp [valD, hk], h⟩
    · rcases val_rel (k := k) e2 a with ⟨h1, h2⟩ | ⟨v', d', h1, h2, h3⟩
      · left
        constructor
        · simpa [valV, List.find?_cons, hk] using h1
        · simpa [valD, List.find?_cons, hk] using h2
      · refine .inr ⟨v', d', ?_, ?_, h3⟩
        · simpa [valV, List.find?_cons, hk] using h1
        · simpa [valD, List.find?_cons, hk] using h2
theorem any_rel {k : κ} : ∀ {kvs : List (κ × V)} {kds : List (κ × D)}, kvs.map (·.1) = kds.map (·.1) → (kvs.any fun kv => decide (kv.1 = k)) = kds.any fun kv => decide (kv.1 = k)
  | [], [], _ => rfl
  | [], _ :: _, e => by cases e
  | _ :: _, [], e => by cases e
  | (k1, v) :: kvs, (k2, d) :: kds, e => by
    have e1 : k1 = k2 := (List.cons.inj e).1
    have ih := any_rel (k := k) (List.cons.inj e).2
    subst e1
    simp [List.any_cons, ih]
theorem put_rel {k : κ} {v : V} {d : D} {kvs : List (κ × V)} {kds : List (κ × D)} (e : kvs.map (·.1) = kds.map (·.1)) (a : DdAll K N W H (kvs.map (·.2)) (kds.map (·.2))) (h : Dd K N W H v d) :
    (putK kvs k v).map (·.1) = (putD kds k d).map (·.1) ∧ DdAll K N W H ((putK kvs k v).map (·.2)) ((putD kds k d).map (·.2)) := by
  unfold putK putD
  rw [any_rel e]
  split
  · have key : ∀ {kvs : List (κ × V)} {kds : List (κ × D)}, kvs.map (·.1) = kds.map (·.1) → DdAll K N W H (kvs.map (·.2)) (kds.map (·.2)) →
        (kvs.map (fun kv => if kv.1 = k then (kv.1, v) else kv)).map (·.1) = (kds.map (fun kv => if kv.1 = k then (kv.1, d) else kv)).map (·.1) ∧
        DdAll K N W H ((kvs.map (fun kv => if kv.1 = k then (kv.1, v) else kv)).map (·.2)) ((kds.map (fun kv => if kv.1 = k then (kv.1, d) else kv)).map (·.2)) := by
      intro kvs
      induction kvs with
      | nil =>
        intro kds e a
        cases kds with
        | nil => exact ⟨rfl, .nil⟩
        | cons _ _ => cases e
      | cons p kvs ih =>
        intro kds e a
        cases kds with
        | nil => cases e
        | cons p' kds =>
          obtain ⟨k1, v1⟩ := p
          obtain ⟨k2, d1⟩ := p'
          cases a with
          | cons h1 a =>
            have e1 : k1 = k2 := (List.cons.inj e).1
            subst e1
            obtain ⟨i1, i2⟩ := ih (List.cons.inj e).2 a
            by_cases hk : k1 = k
            · simp only [List.map_cons, if_pos hk]
              exact ⟨by rw [i1], .cons h i2⟩
            · simp only [List.map_cons, if_neg hk]
              exact ⟨by rw [i1], .cons h1 i2⟩
    exact key e a
  · rw [List.map_append, List.map_append, List.map_append, List.map_append, e]
    exact ⟨rfl, a.app (.cons h .nil)⟩
end
def keyD : D → Option Key
  | .int i => some (.inl i)
  | .str x => some (.inr x)
  | _ => none
def keysD : List D → Option (List Key)
  | [] => some []
  | d :: ds => (keyD d).bind fun k => (keysD ds).map fun ks => k :: ks
theorem keyD_v {F : Fx} {L : List Addr} {H : Hp} {v : V} {d : D} {k : Key} (b : Bw F L H v d) (e : keyD d = some k) : v = kV k := by
  cases d <;> cases e
  · exact bw_int b
  · exact bw_str b
theorem keysD_v {K : PySem.W.Frag} {N : Addr → Prop} {W : Wd} {H : Hp} : ∀ {vs : List V} {ds : List D} {ks : List Key}, DdAll K N W H vs ds → keysD ds = some ks → vs = ks.map kV
  | _, _, _, .nil, e => by cases e; rfl
  | _, _, _, .cons (v := v) (d := d) h a, e => by
    obtain ⟨k, h1, h2⟩ := Option.bind_eq_some_iff.mp e
    obtain ⟨ks, h3, h4⟩ := Option.map_eq_some_iff.mp h2
    subst h4
    rw [keysD_v a h3]
    cases d <;> cases h1
    · rw [dd_intE h]; rfl
    · rw [dd_strE h]; rfl
def getD : D → D → Option (Option D)
  | .dic kds, y => (keyD y).map fun k => valD kds k
  | .dct kds, .tup ys => (keysD ys).map fun k => valD kds k
  | _, _ => none
theorem getD_ok {F : Fx} {L : List Addr} {H : Hp} {x y : V} {dx dy : D} {r : Option D} (bx : Bw F L H x dx) (bb : Bw F L H y dy) (e : getD dx dy = some r) :
    ∃ a o, x = .ref a ∧ DGet H a y o ∧ ((o = none ∧ r = none) ∨ ∃ v d, o = some v ∧ r = some d ∧ Dd F.K (F.N L) F.W H v d) := by
  cases dx with
  | dic kds =>
    obtain ⟨a, kvs, rfl, h1, h2, h3⟩ := bw_dic bx
    obtain ⟨k, e1, e2⟩ := Option.map_eq_some_iff.mp e
    have hy := keyD_v bb e1
    subst hy e2
    exact ⟨a, valV kvs k, rfl, .inl ⟨kvs, k, h1, rfl, rfl⟩, val_rel h2 h3⟩
  | dct kds =>
    cases dy with
    | tup ys =>
      obtain ⟨a, kvs, rfl, h1, h2, h3⟩ := bw_dct bx
      obtain ⟨b, vs, rfl, g1, g2⟩ := bw_tup bb
      obtain ⟨k, e1, e2⟩ := Option.map_eq_some_iff.mp e
      have hy := keysD_v g2 e1
      subst hy e2
      exact ⟨a, valV kvs k, rfl, .inr ⟨kvs, k, b, h1, rfl, g1, rfl⟩, val_rel h2 h3⟩
    | _ => cases e
  | _ => cases e
def eqF : D → D → Bool
  | .non, .non => true
  | .bl a, .bl b => a == b
  | .bl a, .int b => (if a then 1 else 0) == b
  | .int a, .bl b => a == (if b then 1 else 0)
  | .int a, .int b => a == b
  | .str a, .str b => a == b
  | _, _ => false
def itemsD : D → Option (List D)
  | .lst xs => some xs
  | .tup xs => some xs
  | .ktp xs => some xs
  | _ => none
def inFlat (neg : Bool) : B2 := fun x y => (itemsD y).bind fun ys => if x.leaf = true ∧ ys.all D.leaf = true then some (.bl (neg ^^ ys.any fun y => eqF y x)) else none
def inDeep (neg : Bool) : B2 := fun x y => match toPy x, toPy y with
  | some p, some (.list ps) => if SeqAt.shaped p = true ∧ SeqAt.shaped (.list ps) = true then some (.bl (neg ^^ ps.any fun z => PyData.eqv z p)) else none
  | _, _ => none
def inDict (neg : Bool) : B2 := fun x y => (getD y x).map fun r => .bl (neg ^^ r.isSome)
def inSign (neg : Bool) : B2
  | .str x, .str z => match x.cps.toList with | [c] => some (.bl (neg ^^ decide (c ∈ z.cps.toList))) | _ => none
  | _, _ => none
def bIn (neg : Bool) : B2 := fun x y => (inFlat neg x y).or ((inDict neg x y).or ((inSign neg x y).or (inDeep neg x y)))
theorem leaf_flat {K : PySem.W.Frag} {N : Addr → Prop} {W : Wd} {H : Hp} {v : V} {d : D} (h : Dd K N W H v d) (l : d.leaf = true) : flatV v = true := by cases h <;> first | rfl | cases l
theorem leaf_eq {K : PySem.W.Frag} {N : Addr → Prop} {W : Wd} {H : Hp} {v u : V} {d e : D} (h : Dd K N W H v d) (l : d.leaf = true) (h' : Dd K N W H u e) (l' : e.leaf = true) : eqV v u = eqF d e := by
  cases h <;> cases h' <;> first | rfl | cases l | cases l'
theorem all_leaf {K : PySem.W.Frag} {N : Addr → Prop} {W : Wd} {H : Hp} {v : V} {d : D} (h : Dd K N W H v d) (l : d.leaf = true) : ∀ {vs : List V} {ds : List D}, DdAll K N W H vs ds → ds.all D.leaf = true → vs.all flatV = true ∧ inV v vs = ds.any fun y => eqF y d
  | _, _, .nil, _ => ⟨rfl, rfl⟩
  | _, _, .cons g a, q => by
    rw [List.all_cons, Bool.and_eq_true] at q
    obtain ⟨i1, i2⟩ := all_leaf h l a q.2
    refine ⟨by rw [List.all_cons, leaf_flat g q.1, i1]; rfl, ?_⟩
    unfold inV at i2 ⊢
    rw [List.any_cons, List.any_cons, i2, leaf_eq g q.1 h l]
section
variable {X : Cx} {F : Fx} {e a b c : Expr} {d da db dc : TDE} {pos : Pos}
theorem bw_items {L : List Addr} {H : Hp} {v : V} {y : D} {ys : List D} (h : Bw F L H v y) (e : itemsD y = some ys) : ∃ a vs, v = .ref a ∧ (SqL F.K H a vs ∨ SqT F.K H a vs) ∧ DdAll F.K (F.N L) F.W H vs ys := by
  cases y <;> cases e
  · obtain ⟨a, vs, rfl, h1, h2⟩ := bw_lst h
    exact ⟨a, vs, rfl, .inl (SqL.of h1), h2⟩
  · obtain ⟨a, vs, rfl, h1, h2⟩ := bw_tup h
    exact ⟨a, vs, rfl, .inr (SqT.of h1), h2⟩
  · rcases h with h | ⟨e, h1, h2, h3⟩
    · cases h with | ktp h1 h2 h3 h4 h5 h6 => exact ⟨_, _, rfl, .inr (.inr ⟨_, _, _, h1, h2, h3, h4, h5⟩), h6⟩
    · cases e <;> cases h3
theorem inFlat_ok (neg : Bool) : Op2 F (rIn F.K neg) (inFlat neg) := fun A bx byy e Q q => by
  obtain ⟨ys, h1, h2⟩ := Option.bind_eq_some_iff.mp e
  obtain ⟨⟨l1, l2⟩, rfl⟩ := guard_elim h2
  obtain ⟨p, vs, rfl, g1, g2⟩ := bw_items byy h1
  have dx := bw_leaf bx l1
  obtain ⟨i1, i2⟩ := all_leaf dx l1 g2 l2
  refine ⟨p, vs, rfl, g1, leaf_flat dx l1, i1, ?_⟩
  rw [i2]
  cases neg
  · rw [Bool.false_xor] at q
    exact q _ _ (.refl _ _) A.ok (.bl _)
  · rw [Bool.true_xor] at q
    exact q _ _ (.refl _ _) A.ok (.bl _)
theorem inDeep_elim {neg : Bool} {dx dy z : D} (e : inDeep neg dx dy = some z) : ∃ p ps, toPy dx = some p ∧ toPy dy = some (.list ps) ∧ SeqAt.shaped p = true ∧ SeqAt.shaped (.list ps) = true ∧ z = .bl (neg ^^ ps.any fun z => PyData.eqv z p) := by
  unfold inDeep at e
  cases h1 : toPy dx with
  | none => rw [h1] at e; cases e
  | some p =>
    cases h2 : toPy dy with
    | none => rw [h1, h2] at e; cases e
    | some q =>
      rw [h1, h2] at e
      cases q with
      | list ps =>
        obtain ⟨hc, rfl⟩ := guard_elim e
        exact ⟨p, ps, rfl, rfl, hc.1, hc.2, rfl⟩
      | _ => cases e
theorem inDeep_ok : Op2 F (rInD F.K) (inDeep false) := fun A bx byy e Q q => by
  obtain ⟨p1, p2, h1, h2, s1, s2, rfl⟩ := inDeep_elim e
  exact ⟨p1, p2, bw_py bx h1, bw_py byy h2, s1, s2, q _ _ (.refl _ _) A.ok (by rw [Bool.false_xor]; exact .bl _)⟩
def rDIn (neg : Bool) : R2 := fun x y H Q => ∃ a o, y = .ref a ∧ DGet H a x o ∧ Q (.bl (neg ^^ o.isSome)) H
theorem op_dIn (hu : X.A.units + 1 < cLine) : OpR X (compareOp .In) (rDIn false) := fun pins s σ H x y v u Q I rx ry h => by
  obtain ⟨a, o, rfl, g, q⟩ := h
  cases ry
  exact d_in hu I g rx fun s' I' => ⟨.bl _, H, I', rfl, by simpa using q⟩
theorem inDict_ok (neg : Bool) : Op2 F (rDIn neg) (inDict neg) := fun A bx byy e Q q => by
  obtain ⟨r, h1, rfl⟩ := Option.map_eq_some_iff.mp e
  obtain ⟨a, o, rfl, g, h⟩ := getD_ok byy bx h1
  refine ⟨a, o, rfl, g, ?_⟩
  have : o.isSome = r.isSome := by
    rcases h with ⟨rfl, rfl⟩ | ⟨v, d, rfl, rfl, _⟩ <;> rfl
  rw [this]
  exact q _ _ (.refl _ _) A.ok (.bl _)
theorem inSign_ok (neg : Bool) : Op2 F (fun x y H Q => ∃ (c : Nat) (z : Str), x = .str ⟨#[c]⟩ ∧ y = .str z ∧ Q (.bl (neg ^^ decide (c ∈ z.cps.toList))) H) (inSign neg) := fun A bx byy e Q q => by
  rename_i dx dy z
  cases dx <;> try cases e
  cases dy <;> try cases e
  rename_i x y
  have hx := bw_str bx
  have hy := bw_str byy
  subst hx hy
  obtain ⟨⟨l⟩⟩ := x
  match l, e with
  | [c], e =>
    cases e
    exact ⟨c, y, rfl, rfl, q _ _ (.refl _ _) A.ok (.bl _)⟩
  | [], e => cases e
  | _ :: _ :: _, e => cases e
theorem op_inSg : OpR X (compareOp .In) (fun x y H Q => ∃ (c : Nat) (z : Str), x = .str ⟨#[c]⟩ ∧ y = .str z ∧ Q (.bl (false ^^ decide (c ∈ z.cps.toList))) H) := fun pins s σ H x y v u Q I rx ry ⟨c, z, e1, e2, q⟩ => op_in_sign pins s σ H x y v u Q I rx ry ⟨c, z, e1, e2, by rw [Bool.false_xor] at q; exact q⟩
variable {k : Nat}
theorem u65' (hr : Room k X.A) : X.A.units + 65 < cLine := by have := hr.un; omega
theorem inR (hr : Room k X.A) (hK : F.K = X.K) : OpR X (compareOp .In) (fun x y H Q => rIn F.K false x y H Q ∨ (rDIn false x y H Q ∨ ((∃ (c : Nat) (z : Str), x = .str ⟨#[c]⟩ ∧ y = .str z ∧ Q (.bl (false ^^ decide (c ∈ z.cps.toList))) H) ∨ rInD F.K x y H Q))) := by
  rw [hK]
  exact op_in_seq.or ((op_dIn (hu_of hr)).or (op_inSg.or (op_inD (u65' hr))))
theorem dd_in (hr : Room k X.A) (ha : PE X a (lB F da)) (hb : PE X b (lB F db)) (hm : behindInMarks .In b = false := by rfl) (hK : F.K = X.K := by rfl) : PE X (.Compare a [.In] [b] pos) (lC F (dO2 (bIn false) da db)) :=
  dd_cmp (Op2.or (inFlat_ok false) (Op2.or (inDict_ok false) (Op2.or (inSign_ok false) inDeep_ok))) (inR hr hK) ha hb hm
def dChain (f g : B2) (da db dc : TDE) : TDE := fun env P => da env fun x => db env fun y => ob (f x y) fun z => match z with | .bl true => dc env fun w => ob (g y w) P | .bl false => P (.bl false) | _ => False
end
section
variable {X : Cx} {F : Fx} {e a b c : Expr} {es : List Expr} {d da db dc : TDE} {ds : TDA} {pos : Pos}
def aNil : TDA := fun _ P => P []
def aCons (d : TDE) (ds : TDA) : TDA := fun env P => d env fun x => ds env fun xs => P (x :: xs)
theorem l_nil : ∀ σ H Q, lA F aNil σ H Q → tNil σ H Q := fun σ H Q ⟨env, L, P, A, p, q⟩ => q [] [] H p (.refl _ _) A.ok .nil
theorem l_cons : ∀ σ H Q, lA F (aCons d ds) σ H Q → tCons (lC F d) (lA F ds) σ H Q := fun σ H Q ⟨env, L, P, A, p, q⟩ =>
  ⟨env, L, _, A, p, fun x v H1 px k1 o1 d1 => ⟨env, L, _, A.step k1 o1, px, fun xs vs H2 pxs k2 o2 d2 => q (x :: xs) (v :: vs) H2 pxs (k1.trans k2) o2 (.cons ((A.step k1 o1).kd k2 d1) d2)⟩⟩
theorem da_nil : PA X [] (lA F aNil) := PA.mono pa_nil l_nil
theorem da_cons (ha : PE X e (lC F d)) (hr : PA X es (lA F ds)) (hs : starEach (e :: es) X.env = (false, eval e X.env) :: starEach es X.env := by rfl) : PA X (e :: es) (lA F (aCons d ds)) := PA.mono (pa_cons ha hr hs) l_cons
def dTup (ds : TDA) : TDE := fun env P => ds env fun xs => xs.length ≤ sizeLine ∧ P (.tup xs)
def dLst (ds : TDA) : TDE := fun env P => ds env fun xs => xs.length ≤ sizeLine ∧ P (.lst xs)
theorem free_of {W : Wd} {H H1 : Hp} (k : KeepW W H H1) (o : W.ok H1) {a : Addr} (h : H1 a = none) : H a = none := by
  cases zz : H a with
  | none => rfl
  | some u =>
    by_cases ow : W.own a
    · obtain ⟨u2, e2⟩ := Wd.al o ow
      rw [h] at e2
      cases e2
    · rw [k a u ow zz] at h
      cases h
theorem dn_tup {x1} (h : PA X es (lA F ds)) : PE X (.Tuple es x1 pos) (lN F (dTup ds)) := PE.mono (pe_tup h) fun σ H Q ⟨env, L, P, A, p, q⟩ =>
  ⟨env, L, _, A, p, fun xs vs H1 pxs k1 o1 d1 => ⟨by rw [d1.len]; exact pxs.1, fun t ht => q _ t _ pxs.2 (k1.trans (.new ht)) (ok_new o1 ht) (free_of k1 o1 ht) (new_tupN (A.step k1 o1) ht d1)⟩⟩
theorem dn_lst (h : PA X es (lA F ds)) : PE X (.List es pos) (lN F (dLst ds)) := PE.mono (pe_lst h) fun σ H Q ⟨env, L, P, A, p, q⟩ =>
  ⟨env, L, _, A, p, fun xs vs H1 pxs k1 o1 d1 => ⟨by rw [d1.len]; exact pxs.1, fun t ht => q _ t _ pxs.2 (k1.trans (.new ht)) (ok_new o1 ht) (free_of k1 o1 ht) (new_lstN (A.step k1 o1) ht d1)⟩⟩
end
end DL
namespace DL
open PySem PySem.Spec PyProof.Rows L2 RK
theorem DdAll.at {K : PySem.W.Frag} {N : Addr → Prop} {W : Wd} {H : Hp} {vs : List V} {ds : List D} {i : Int} {d : D} (a : DdAll K N W H vs ds) (h : atI ds i = some d) : ∃ v, atI vs i = some v ∧ Dd K N W H v d := by
  unfold atI at h ⊢
  rw [a.len]
  obtain ⟨j, h1, h2⟩ := Option.bind_eq_some_iff.mp h
  obtain ⟨v, h3, h4⟩ := a.get h2
  exact ⟨v, by rw [h1]; exact h3, h4⟩
def ixSeq : B2
  | .lst xs, .int i => atI xs i
  | .tup xs, .int i => atI xs i
  | .ktp xs, .int i => atI xs i
  | _, _ => none
def ixStr : B2
  | .str z, .int i => if z.length ≤ sizeLine then (atI z.cps.toList i).map fun c => .str ⟨#[c]⟩ else none
  | _, _ => none
def ixDic : B2 := fun x y => (getD x y).bind fun r => r
def bIx : B2 := fun x y => (ixSeq x y).or ((ixStr x y).or (ixDic x y))
section
variable {X : Cx} {F : Fx} {e a b c : Expr} {d da db dc : TDE} {pos : Pos}
theorem ixSeq_ok : Op2 F (fun x y H Q => rIxL F.K x y H Q ∨ rIxT F.K x y H Q) ixSeq := fun A bx byy e Q q => by
  rename_i dx dy z
  cases dx <;> try cases e
  all_goals cases dy <;> try cases e
  · obtain ⟨p, vs, rfl, h1, h2⟩ := bw_lst bx
    have hy := bw_int byy
    subst hy
    obtain ⟨v, h3, h4⟩ := h2.at e
    exact .inl ⟨p, vs, _, v, rfl, rfl, SqL.of h1, h3, q _ _ (.refl _ _) A.ok h4⟩
  · obtain ⟨p, vs, rfl, h1, h2⟩ := bw_tup bx
    have hy := bw_int byy
    subst hy
    obtain ⟨v, h3, h4⟩ := h2.at e
    exact .inr ⟨p, vs, _, v, rfl, rfl, SqT.of h1, h3, q _ _ (.refl _ _) A.ok h4⟩
  · obtain ⟨p, vs, rfl, h1, h2⟩ := bw_items bx rfl
    have hy := bw_int byy
    subst hy
    obtain ⟨v, h3, h4⟩ := h2.at e
    rcases h1 with h1 | h1
    · exact .inl ⟨p, vs, _, v, rfl, rfl, h1, h3, q _ _ (.refl _ _) A.ok h4⟩
    · exact .inr ⟨p, vs, _, v, rfl, rfl, h1, h3, q _ _ (.refl _ _) A.ok h4⟩
theorem ixStr_ok : Op2 F rIxS ixStr := fun A bx byy e Q q => by
  rename_i dx dy z
  cases dx <;> try cases e
  cases dy <;> try cases e
  rename_i x i
  have hx := bw_str bx
  have hy := bw_int byy
  subst hx hy
  replace e : (if x.length ≤ sizeLine then (atI x.cps.toList i).map fun c => D.str ⟨#[c]⟩ else none) = some z := e
  by_cases hl : x.length ≤ sizeLine
  · rw [if_pos hl] at e
    obtain ⟨c, h1, rfl⟩ := Option.map_eq_some_iff.mp e
    exact ⟨x, i, c, rfl, rfl, hl, h1, q _ _ (.refl _ _) A.ok (.str _)⟩
  · rw [if_neg hl] at e
    cases e
def rDG : R2 := fun x y H Q => ∃ a v, x = .ref a ∧ DGet H a y (some v) ∧ Q v H
theorem ix_dict (hu : X.A.units + 1 < cLine) : IxR X rDG := fun value slice pins s σ H x y v u Q I rx ry h hs => by
  obtain ⟨a, w, e1, g, q⟩ := h
  subst e1
  cases rx
  have tI := dict_typeIs I g
  have got : wpAny (model X.prog X.w) X.A (getItem (.ref a) u) (EP X pins σ Q) X.xe s := d_getItem hu I g ry fun w' s3 I3 rw' => ⟨w, H, I3, rw', q⟩
  unfold PyProof.Rows.subscriptTail
  refine wpAny_bind ?_
  rw [getitemInPython_of_ne tI.not_modules]
  refine wpAny_bind (wpAny_specialOf tI PySem.F.slot_dict_getitem.lookup ?_)
  have behind : wpAny (model X.prog X.w) X.A (subscripted slice false (.ref a) u) (fun z s3 => wpAny (model X.prog X.w) X.A (letTemporaryGo value (.ref a) z >>= fun _ => pure z) (EP X pins σ Q) X.xe s3) X.xe s := by
    rw [hs]
    exact wpAny_operating (wpAny_mono got (fun z s3 h3 => wpAny_bind (wpAny_letTemporaryGo (wpAny_pure h3))) fun _ _ k => k)
  first
    | exact wpAny_pure (wpAny_bind behind)
    | exact wpAny_bind (wpAny_pure (wpAny_bind behind))
    | exact wpAny_bind behind
theorem ixDic_ok : Op2 F rDG ixDic := fun A bx byy e Q q => by
  obtain ⟨r, h1, h2⟩ := Option.bind_eq_some_iff.mp e
  subst h2
  obtain ⟨a, o, rfl, g, h⟩ := getD_ok bx byy h1
  rcases h with ⟨_, h⟩ | ⟨v, d, rfl, h, hd⟩
  · cases h
  · cases h
    exact ⟨a, v, rfl, g, q _ _ (.refl _ _) A.ok hd⟩
variable {k : Nat}
theorem ixR (hr : Room k X.A) (hK : F.K = X.K) : IxR X (fun x y H Q => (rIxL F.K x y H Q ∨ rIxT F.K x y H Q) ∨ (rIxS x y H Q ∨ rDG x y H Q)) := by
  rw [hK]
  exact (ix_list.or ix_tup).or (ix_str.or (ix_dict (hu_of hr)))
theorem dd_ix (hr : Room k X.A) (ha : PE X a (lB F da)) (hb : PE X b (lB F db)) (hs : PlainIx b := by intro _ _; rfl) (hK : F.K = X.K := by rfl) : PE X (.Subscript a b pos) (lC F (dO2 bIx da db)) :=
  PE.mono (pe_ix (ixR hr hK) ha hb hs) (lop2 (Op2.or ixSeq_ok (Op2.or ixStr_ok ixDic_ok)))
def cutD (xs : List D) (lo hi : Option Int) : List D := (xs.drop (HT.sIx xs.length 0 lo)).take (HT.sIx xs.length xs.length hi - HT.sIx xs.length 0 lo)
theorem DdAll.cut {K : PySem.W.Frag} {N : Addr → Prop} {W : Wd} {H : Hp} {vs : List V} {ds : List D} (a : DdAll K N W H vs ds) (lo hi : Option Int) : DdAll K N W H (cutV vs lo hi) (cutD ds lo hi) := by
  unfold cutV cutD
  rw [a.len]
  exact (a.drop _).take _
abbrev TDO := De → (Option Int → Prop) → Prop
def oNone : TDO := fun _ P => P none
def oSome (d : TDE) : TDO := fun env P => d env fun x => match x with | .int i => P (some i) | _ => False
def lO (F : Fx) (d : TDO) : TO := fun σ H Q => ∃ env L P, Abs F env σ L H ∧ d env P ∧ ∀ x H', P x → KeepW F.W H H' → F.W.ok H' → Q x H'
theorem PO.mono {e : Option Expr} {t t' : TO} (h : L2.PO X e t) (m : ∀ σ H Q, t' σ H Q → t σ H Q) : L2.PO X e t' := ⟨fun pins s σ H Q I q => h.run pins s σ H Q I (m σ H Q q)⟩
theorem do_none : L2.PO X none (lO F oNone) := PO.mono po_none fun σ H Q ⟨env, L, P, A, p, q⟩ => q none H p (.refl _ _) A.ok
theorem do_some (h : PE X e (lC F d)) : L2.PO X (some e) (lO F (oSome d)) := PO.mono (po_some h) fun σ H Q ⟨env, L, P, A, p, q⟩ => ⟨env, L, _, A, p, fun x v H1 px k1 o1 d1 => by
  cases x with
  | int i => cases d1; exact ⟨i, rfl, q _ H1 px k1 o1⟩
  | _ => exact px.elim⟩
def cutA (x : D) (lo hi : Option Int) : Option D := match x with
  | .lst xs => some (.lst (cutD xs lo hi))
  | .tup xs => if HT.sIx xs.length 0 lo = 0 ∧ HT.sIx xs.length xs.length hi = xs.length then none else some (.tup (cutD xs lo hi))
  | .str z => if z.length ≤ sizeLine then some (.str (cutS z lo hi)) else none
  | _ => none
def dCut (f : D → Option Int → Option Int → Option D) (de : TDE) (dl dh : TDO) : TDE := fun env P => de env fun x => dl env fun l => dh env fun h => ob (f x l h) P
theorem slR (hK : F.K = X.K) : SlR X (fun x lo hi H Q => rSlL F.K x lo hi H Q ∨ (rSlT F.K x lo hi H Q ∨ rSlS x lo hi H Q)) := by
  rw [hK]
  exact sl_list.or (sl_tup.or sl_str)
variable {lo hi : Option Expr} {dl dh : TDO} {p2 : Pos}
theorem dd_cut (he : PE X e (lB F d)) (hl : L2.PO X lo (lO F dl)) (hu : L2.PO X hi (lO F dh)) (hK : F.K = X.K := by rfl) : PE X (.Subscript e (.Slice lo hi none p2) pos) (lC F (dCut cutA d dl dh)) :=
  PE.mono (pe_slice (slR hK) he hl hu) fun σ H Q ⟨env, L, P, A, p, q⟩ => ⟨env, L, _, A, p, fun x v H1 px k1 o1 b1 => ⟨env, L, _, A.step k1 o1, px, fun l H2 pl k2 o2 => ⟨env, L, _, (A.step k1 o1).step k2 o2, pl, fun h H3 ph k3 o3 => by
    obtain ⟨z, e, pz⟩ := ob_elim ph
    have A3 := ((A.step k1 o1).step k2 o2).step k3 o3
    have b3 := (b1.step (A.step k1 o1) k2).step ((A.step k1 o1).step k2 o2) k3
    have kk := (k1.trans k2).trans k3
    cases x with
    | lst xs =>
      cases e
      obtain ⟨a, vs, rfl, h1, h2⟩ := bw_lst b3
      exact .inl ⟨a, vs, rfl, SqL.of h1, fun t ht => q _ _ _ pz (kk.trans (.new ht)) (ok_new o3 ht) (new_lst A3 ht (h2.cut l h))⟩
    | tup xs =>
      obtain ⟨a, vs, rfl, h1, h2⟩ := bw_tup b3
      replace e : (if HT.sIx xs.length 0 l = 0 ∧ HT.sIx xs.length xs.length h = xs.length then none else some (D.tup (cutD xs l h))) = some z := e
      by_cases hc : HT.sIx xs.length 0 l = 0 ∧ HT.sIx xs.length xs.length h = xs.length
      · rw [if_pos hc] at e
        cases e
      · rw [if_neg hc] at e
        cases e
        exact .inr (.inl ⟨a, vs, rfl, SqT.of h1, by rw [h2.len]; exact hc, fun t ht => q _ _ _ pz (kk.trans (.new ht)) (ok_new o3 ht) (new_tup A3 ht (h2.cut l h))⟩)
    | str s =>
      have hs := bw_str b3
      subst hs
      obtain ⟨hc, rfl⟩ := guard_elim e
      exact .inr (.inr ⟨s, rfl, hc, q _ _ _ pz kk o3 (.str _)⟩)
    | _ => cases e⟩⟩⟩
def dRev (d : TDE) : TDE := fun env P => d env fun x => match x with | .lst xs => P (.lst xs.reverse) | _ => False
theorem lchain {r r' : R2} {f g : B2} (h : Op2 F r f) (h' : Op2 F r' g) : ∀ σ H Q, lC F (dChain f g da db dc) σ H Q → tChain r r' (lB F da) (lB F db) (lB F dc) σ H Q := fun σ H Q ⟨env, L, P, A, p, q⟩ =>
  ⟨env, L, _, A, p, fun x v H1 px k1 o1 b1 => ⟨env, L, _, A.step k1 o1, px, fun y u H2 py k2 o2 b2 => by
    obtain ⟨z, e, pz⟩ := ob_elim py
    have A2 := (A.step k1 o1).step k2 o2
    refine h A2 (b1.step (A.step k1 o1) k2) b2 e _ fun w H3 k3 o3 d3 => ?_
    cases z with
    | bl z =>
      have hw := dd_blE d3
      subst hw
      refine ⟨z, rfl, ?_⟩
      cases z with
      | false => exact iteF (q _ _ H3 pz ((k1.trans k2).trans k3) o3 d3)
      | true => exact iteT ⟨env, L, _, A2.step k3 o3, pz, fun t tv H4 pt k4 o4 b4 => by
          obtain ⟨z2, e2, pz2⟩ := ob_elim pt
          exact h' ((A2.step k3 o3).step k4 o4) ((b2.step A2 k3).step (A2.step k3 o3) k4) b4 e2 Q fun w2 H5 k5 o5 d5 => q _ _ H5 pz2 ((((k1.trans k2).trans k3).trans k4).trans k5) o5 d5⟩
    | _ => exact pz.elim⟩⟩
theorem dd_lele (ha : PE X a (lB F da)) (hb : PE X b (lB F db)) (hc : PE X c (lB F dc)) (hm : lastMarks [.LtE, .LtE] [b, c] = false := by with_unfolding_all rfl) : PE X (.Compare a [.LtE, .LtE] [b, c] pos) (lC F (dChain bLe bLe da db dc)) :=
  PE.mono (pe_chain op_le op_le ha hb hc hm) (lchain (iI0_ok fun i j _ _ _ _ => .bl _) (iI0_ok fun i j _ _ _ _ => .bl _))
theorem l_testE {t : TE} (h : ∀ σ H Q, lC F d σ H Q → t σ H Q) : ∀ σ H Q, lT F (dT d) σ H Q → tTest t σ H Q := fun σ H Q ⟨env, L, P, A, p, q⟩ => h σ H _ ⟨env, L, _, A, p, fun x v H1 px k1 o1 d1 => by
  cases x with
  | bl b => cases d1; exact ⟨b, rfl, q b H1 px k1 o1⟩
  | _ => exact px.elim⟩
theorem dt_lele (ha : PE X a (lB F da)) (hb : PE X b (lB F db)) (hc : PE X c (lB F dc)) (hm : lastMarks [.LtE, .LtE] [b, c] = false := by with_unfolding_all rfl) : PT X (.Compare a [.LtE, .LtE] [b, c] pos) (lT F (dT (dChain bLe bLe da db dc))) :=
  PT.mono (pt_chain op_le op_le ha hb hc hm) (l_testE (lchain (iI0_ok fun i j _ _ _ _ => .bl _) (iI0_ok fun i j _ _ _ _ => .bl _)))
theorem dt_ltlt (ha : PE X a (lB F da)) (hb : PE X b (lB F db)) (hc : PE X c (lB F dc)) (hm : lastMarks [.Lt, .Lt] [b, c] = false := by with_unfolding_all rfl) : PT X (.Compare a [.Lt, .Lt] [b, c] pos) (lT F (dT (dChain (iI0 fun i j => .bl (decide (i < j))) (iI0 fun i j => .bl (decide (i < j))) da db dc))) :=
  PT.mono (pt_chain op_lt op_lt ha hb hc hm) (l_testE (lchain (iI0_ok fun i j _ _ _ _ => .bl _) (iI0_ok fun i j _ _ _ _ => .bl _)))
def dNeg (d : TDE) : TDE := fun env P => d env fun x => match x with | .int i => P (.int (-i)) | _ => False
theorem dd_neg (ha : PE X a (lC F d)) : PE X (.UnaryOp .USub a pos) (lC F (dNeg d)) := PE.mono (pe_un un_neg ha) fun σ H Q ⟨env, L, P, A, p, q⟩ => ⟨env, L, _, A, p, fun x v H1 px k1 o1 d1 => by
  cases x with
  | int i => cases d1; exact ⟨i, rfl, q _ _ H1 px k1 o1 (.int _)⟩
  | _ => exact px.elim⟩
def truD : D → Option Bool
  | .non => some false
  | .bl b => some b
  | .int i => some (i != 0)
  | .str y => if y.length ≤ sizeLine then some ((y.length : Int) != 0) else none
  | .lst xs => some (!xs.isEmpty)
  | .tup xs => some (!xs.isEmpty)
  | _ => none
def dTru (d : TDE) : TDT := fun env P => d env fun x => ob (truD x) P
end
end DL
namespace DL
open PySem PySem.Spec PyProof.Rows L2 RK
abbrev BwA (F : Fx) (L : List Addr) (H : Hp) : List V → List D → Prop := Paired (Bw F L H)
def lAb (F : Fx) (d : TDA) : TA := fun σ H Q => ∃ env L P, Abs F env σ L H ∧ d env P ∧ ∀ xs vs H', P xs → KeepW F.W H H' → F.W.ok H' → BwA F L H' vs xs → Q vs H'
section
variable {X : Cx} {F : Fx} {e a b c : Expr} {es : List Expr} {d da db dc : TDE} {ds : TDA} {pos : Pos}
theorem db_nil : PA X [] (lAb F aNil) := PA.mono pa_nil fun σ H Q ⟨env, L, P, A, p, q⟩ => q [] [] H p (.refl _ _) A.ok .nil
theorem db_cons (ha : PE X e (lB F d)) (hr : PA X es (lAb F ds)) (hs : starEach (e :: es) X.env = (false, eval e X.env) :: starEach es X.env := by rfl) : PA X (e :: es) (lAb F (aCons d ds)) := PA.mono (pa_cons ha hr hs) fun σ H Q ⟨env, L, P, A, p, q⟩ =>
  ⟨env, L, _, A, p, fun x v H1 px k1 o1 d1 => ⟨env, L, _, A.step k1 o1, px, fun xs vs H2 pxs k2 o2 d2 => q (x :: xs) (v :: vs) H2 pxs (k1.trans k2) o2 (.cons (d1.step (A.step k1 o1) k2) d2)⟩⟩
def Ca (F : Fx) (r : List V → Hp → VK → Prop) (f : List D → Option D) : Prop := ∀ {env : De} {σ : L2.St} {L : List Addr} {H : Hp} {vs : List V} {ds : List D} {z : D}, Abs F env σ L H → BwA F L H vs ds → f ds = some z →
  ∀ Q : VK, (∀ v H', KeepW F.W H H' → F.W.ok H' → Dd F.K (F.N L) F.W H' v z → Q v H') → r vs H Q
def CaN (F : Fx) (r : List V → Hp → VK → Prop) (f : List D → Option D) : Prop := ∀ {env : De} {σ : L2.St} {L : List Addr} {H : Hp} {vs : List V} {ds : List D} {z : D}, Abs F env σ L H → BwA F L H vs ds → f ds = some z →
  ∀ Q : VK, (∀ a H', KeepW F.W H H' → F.W.ok H' → H a = none → NewV F L H' a z → Q (.ref a) H') → r vs H Q
def dCa (f : List D → Option D) (ds : TDA) : TDE := fun env P => ds env fun xs => ob (f xs) P
theorem lca {r : List V → Hp → VK → Prop} {f : List D → Option D} (h : Ca F r f) : ∀ σ H Q, lC F (dCa f ds) σ H Q → tCB r (lAb F ds) σ H Q := fun σ H Q ⟨env, L, P, A, p, q⟩ =>
  ⟨env, L, _, A, p, fun xs vs H1 px k1 o1 d1 => by
    obtain ⟨z, e, pz⟩ := ob_elim px
    exact h (A.step k1 o1) d1 e Q fun v H2 k2 o2 d2 => q z v H2 pz (k1.trans k2) o2 d2⟩
theorem lcaN {r : List V → Hp → VK → Prop} {f : List D → Option D} (h : CaN F r f) : ∀ σ H Q, lN F (dCa f ds) σ H Q → tCB r (lAb F ds) σ H Q := fun σ H Q ⟨env, L, P, A, p, q⟩ =>
  ⟨env, L, _, A, p, fun xs vs H1 px k1 o1 d1 => by
    obtain ⟨z, e, pz⟩ := ob_elim px
    exact h (A.step k1 o1) d1 e Q fun v H2 k2 o2 n2 d2 => q z v H2 pz (k1.trans k2) o2 (free_of k1 o1 n2) d2⟩
theorem CallR.or {f : Value} {r r' : List V → Hp → VK → Prop} (h : CallR X f r) (h' : CallR X f r') : CallR X f (fun xs H Q => r xs H Q ∨ r' xs H Q) := fun pins s σ H xs us Q I rx q => by
  rcases q with q | q
  · exact h pins s σ H xs us Q I rx q
  · exact h' pins s σ H xs us Q I rx q
def lenD : List D → Option D
  | [.lst xs] => some (.int xs.length)
  | [.tup xs] => some (.int xs.length)
  | [.ktp xs] => some (.int xs.length)
  | [.str z] => if z.length ≤ sizeLine then some (.int z.length) else none
  | [.dic kds] => some (.int kds.length)
  | _ => none
theorem call_lenR : CallR X (.builtin "len") (fun xs H Q => ∃ a kvs, xs = [V.ref a] ∧ Rd H a (.dK kvs) ∧ Q (.int kvs.length) H) := fun pins s σ H xs us Q I r h => by
  obtain ⟨a, kvs, rfl, ha, q⟩ := h
  obtain ⟨u, rfl, ru⟩ := vals1 r
  cases ru
  exact d_len I ha fun t s' I' => ⟨.int kvs.length, H, I', ⟨t, rfl⟩, q⟩
theorem len_ok : Ca F (fun xs H Q => (∃ x n, xs = [x] ∧ LenV F.K x H n ∧ Q (.int n) H) ∨ (∃ a kvs, xs = [V.ref a] ∧ Rd H a (.dK kvs) ∧ Q (.int kvs.length) H)) lenD := fun A b e Q q => by
  rename_i dl z
  match dl, b, e with
  | [.lst xs], .cons h .nil, e =>
    obtain ⟨a, vs, rfl, h1, h2⟩ := bw_lst h
    cases e
    exact .inl ⟨_, _, rfl, .inl ⟨vs, SqL.of h1, rfl⟩, by rw [h2.len]; exact q _ _ (.refl _ _) A.ok (.int _)⟩
  | [.tup xs], .cons h .nil, e =>
    obtain ⟨a, vs, rfl, h1, h2⟩ := bw_tup h
    cases e
    exact .inl ⟨_, _, rfl, .inr ⟨vs, SqT.of h1, rfl⟩, by rw [h2.len]; exact q _ _ (.refl _ _) A.ok (.int _)⟩
  | [.ktp xs], .cons h .nil, e =>
    obtain ⟨a, vs, rfl, h1, h2⟩ := bw_items h rfl
    cases e
    exact .inl ⟨_, vs.length, rfl, h1.imp (fun h => ⟨vs, h, rfl⟩) (fun h => ⟨vs, h, rfl⟩), by rw [h2.len]; exact q _ _ (.refl _ _) A.ok (.int _)⟩
  | [.str x], .cons h .nil, e =>
    have hx := bw_str h
    subst hx
    obtain ⟨hc, rfl⟩ := guard_elim e
    exact .inl ⟨_, _, rfl, ⟨hc, rfl⟩, q _ _ (.refl _ _) A.ok (.int _)⟩
  | [.dic kds], .cons h .nil, e =>
    obtain ⟨a, kvs, rfl, h1, h2, h3⟩ := bw_dic h
    cases e
    have : kvs.length = kds.length := by simpa using congrArg List.length h2
    exact .inr ⟨_, _, rfl, h1, by rw [this]; exact q _ _ (.refl _ _) A.ok (.int _)⟩
theorem lenR (hK : F.K = X.K) : CallR X (.builtin "len") (fun xs H Q => (∃ x n, xs = [x] ∧ LenV F.K x H n ∧ Q (.int n) H) ∨ (∃ a kvs, xs = [V.ref a] ∧ Rd H a (.dK kvs) ∧ Q (.int kvs.length) H)) := by
  rw [hK]
  exact CallR.or call_len call_lenR
variable {p : Pos}
theorem dd_len (hg : Gl X "len") (hm : X.mg "len" = none) (ha : PE X e (lB F d)) (he : starEach [e] X.env = (false, eval e X.env) :: starEach [] X.env := by rfl) (hpl : (backTo pos (starEach [] X.env)).any (·.1) = false := by rfl) (hK : F.K = X.K := by rfl) :
    PE X (.Call (.Name "len" p) [e] [] pos) (lC F (dCa lenD (aCons d aNil))) := PE.mono (pe_callB (lenR hK) hg hm (by decide +kernel) (db_cons ha db_nil he) (by decide) (by decide) he hpl) (lca len_ok)
def blsD : List D → Option (List Bool)
  | [] => some []
  | .bl b :: ds => (blsD ds).map fun bs => b :: bs
  | _ => none
def intsD : List D → Option (List Int)
  | [] => some []
  | .int i :: ds => (intsD ds).map fun is => i :: is
  | _ => none
def strsD : List D → Option (List Str)
  | [] => some []
  | .str i :: ds => (strsD ds).map fun is => i :: is
  | _ => none
theorem bls_v {K : PySem.W.Frag} {N : Addr → Prop} {W : Wd} {H : Hp} : ∀ {vs : List V} {ds : List D} {bs : List Bool}, DdAll K N W H vs ds → blsD ds = some bs → vs = bs.map V.bl
  | _, _, _, .nil, e => by cases e; rfl
  | _, _, _, .cons (d := d) h a, e => by
    cases d <;> try cases e
    obtain ⟨bs, h1, rfl⟩ := Option.map_eq_some_iff.mp e
    rw [bls_v a h1, dd_blE h]
    rfl
theorem ints_v {K : PySem.W.Frag} {N : Addr → Prop} {W : Wd} {H : Hp} : ∀ {vs : List V} {ds : List D} {bs : List Int}, DdAll K N W H vs ds → intsD ds = some bs → vs = bs.map V.int
  | _, _, _, .nil, e => by cases e; rfl
  | _, _, _, .cons (d := d) h a, e => by
    cases d <;> try cases e
    obtain ⟨bs, h1, rfl⟩ := Option.map_eq_some_iff.mp e
    rw [ints_v a h1, dd_intE h]
    rfl
theorem strs_v {K : PySem.W.Frag} {N : Addr → Prop} {W : Wd} {H : Hp} : ∀ {vs : List V} {ds : List D} {bs : List Str}, DdAll K N W H vs ds → strsD ds = some bs → vs = bs.map V.str
  | _, _, _, .nil, e => by cases e; rfl
  | _, _, _, .cons (d := d) h a, e => by
    cases d <;> try cases e
    obtain ⟨bs, h1, rfl⟩ := Option.map_eq_some_iff.mp e
    rw [strs_v a h1, dd_strE h]
    rfl
theorem dd_strs {K : PySem.W.Frag} {N : Addr → Prop} {W : Wd} {H : Hp} : ∀ zs : List Str, DdAll K N W H (zs.map V.str) (zs.map D.str)
  | [] => .nil
  | z :: zs => .cons (.str z) (dd_strs zs)
theorem dd_ints {K : PySem.W.Frag} {N : Addr → Prop} {W : Wd} {H : Hp} : ∀ zs : List Int, DdAll K N W H (zs.map V.int) (zs.map D.int)
  | [] => .nil
  | z :: zs => .cons (.int z) (dd_ints zs)
theorem blsD_map : ∀ zs : List Bool, blsD (zs.map D.bl) = some zs
  | [] => rfl
  | z :: zs => by show (blsD (zs.map D.bl)).map _ = _; rw [blsD_map zs]; rfl
def allD : List D → Option D
  | [.lst ds] => (blsD ds).map fun bs => .bl (bs.all id)
  | _ => none
theorem all_ok : Ca F (rAll F.K) allD := fun A b e Q q => by
  rename_i dl z
  match dl, b, e with
  | [.lst xs], .cons h .nil, e =>
    obtain ⟨a, vs, rfl, h1, h2⟩ := bw_lst h
    obtain ⟨bs, h3, rfl⟩ := Option.map_eq_some_iff.mp e
    exact ⟨a, bs, rfl, SqL.of (by rw [h1, bls_v h2 h3]), q _ _ (.refl _ _) A.ok (.bl _)⟩
theorem allR (hc : X.calm = true) (hK : F.K = X.K) : CallR X (.builtin "all") (rAll F.K) := by rw [hK]; exact cr_all hc
theorem dd_all (hg : Gl X "all") (hm : X.mg "all" = none) (ha : PE X e (lB F d)) (hc : X.calm = true := by rfl) (he : starEach [e] X.env = (false, eval e X.env) :: starEach [] X.env := by rfl) (hpl : (backTo pos (starEach [] X.env)).any (·.1) = false := by rfl) (hK : F.K = X.K := by rfl) :
    PE X (.Call (.Name "all" p) [e] [] pos) (lC F (dCa allD (aCons d aNil))) := PE.mono (pe_callB (allR hc hK) hg hm (by decide +kernel) (db_cons ha db_nil he) (by decide) (by decide) he hpl) (lca all_ok)
def absD : List D → Option D
  | [.int i] => some (.int (if i < 0 then -i else i))
  | _ => none
theorem abs_ok : Ca F (fun xs H Q => ∃ i, xs = [.int i] ∧ Q (.int (if i < 0 then -i else i)) H) absD := fun A b e Q q => by
  rename_i dl z
  match dl, b, e with
  | [.int i], .cons h .nil, e =>
    cases e
    rw [bw_int h]
    exact ⟨i, rfl, q _ _ (.refl _ _) A.ok (.int _)⟩
theorem dd_abs (hg : Gl X "abs") (hm : X.mg "abs" = none) (ha : PE X e (lB F d)) (he : starEach [e] X.env = (false, eval e X.env) :: starEach [] X.env := by rfl) (hpl : (backTo pos (starEach [] X.env)).any (·.1) = false := by rfl) :
    PE X (.Call (.Name "abs" p) [e] [] pos) (lC F (dCa absD (aCons d aNil))) := PE.mono (pe_callB call_abs hg hm (by decide +kernel) (db_cons ha db_nil he) (by decide) (by decide) he hpl) (lca abs_ok)
end
end DL
namespace DL
open PySem PySem.Spec PyProof.Rows L2 RK
def tyD : D → Option String
  | .non => some "NoneType" | .bl _ => some "bool" | .int _ => some "int" | .str _ => some "str" | .lst _ => some "list" | .tup _ => some "tuple" | .ktp _ => some "tuple" | .dic _ => some "dict" | _ => none
def isD (T : String) (x : D) : Option Bool := (tyD x).bind fun t => kitB t T
def isAnyD (x : D) : List String → Option Bool
  | [] => some false
  | T :: Ts => (isD T x).bind fun b => if b = true then some true else isAnyD x Ts
section
variable {X : Cx} {F : Fx} {e a b c : Expr} {es : List Expr} {d da db dc : TDE} {ds : TDA} {pos p : Pos}
theorem ty_bw {L : List Addr} {H : Hp} {v : V} {x : D} {t : String} (h : Bw F L H v x) (e : tyD x = some t) : TyX F.K H v (.type t) := by
  cases x with
  | non => rw [bw_non h]; cases e; exact .base .non
  | bl _ => rw [bw_bl h]; cases e; exact .base (.bl _)
  | int _ => rw [bw_int h]; cases e; exact .base (.int _)
  | str _ => rw [bw_str h]; cases e; exact .base (.str _)
  | lst _ => obtain ⟨a, vs, rfl, h1, _⟩ := bw_lst h; cases e; exact .base (.lst h1)
  | tup _ => obtain ⟨a, vs, rfl, h1, _⟩ := bw_tup h; cases e; exact .base (.tup h1)
  | ktp _ =>
    cases e
    rcases h with h | ⟨e, h1, h2, h3⟩
    · cases h with | ktp h1 h2 h3 h4 h5 h6 => exact .kTuple h1 h2
    · cases e <;> cases h3
  | dic _ =>
    obtain ⟨a, vs, rfl, h1, _⟩ := bw_dic h
    cases e
    rcases h1 with h1 | ⟨o, h1⟩
    · exact .base (.dK h1)
    · exact .fDict h1
  | _ => cases e
def dIs (T : String) (d : TDE) : TDE := fun env P => d env fun x => ob (isD T x) fun b => P (.bl b)
def dIsA (Ts : List String) (d : TDE) : TDE := fun env P => d env fun x => ob (isAnyD x Ts) fun b => P (.bl b)
theorem isiR (hK : F.K = X.K) : CallR X (.builtin "isinstance") (rIsi F.K) := by rw [hK]; exact call_isi
theorem isiTR (hK : F.K = X.K) : CallR X (.builtin "isinstance") (rIsiT F.K) := by rw [hK]; exact call_isiT
theorem dd_isi {T : String} (hg : Gl X "isinstance") (hm : X.mg "isinstance" = none) (ha : PE X a (lB F d)) (hb : PE X b (tC (.ty T))) (he : starEach [a, b] X.env = (false, eval a X.env) :: starEach [b] X.env := by rfl) (he2 : starEach [b] X.env = (false, eval b X.env) :: starEach [] X.env := by rfl) (hpl : (backTo pos (starEach [b] X.env)).any (·.1) = false := by rfl) (hK : F.K = X.K := by rfl) :
    PE X (.Call (.Name "isinstance" p) [a, b] [] pos) (lC F (dIs T d)) := PE.mono (pe_callB (isiR hK) hg hm (by decide +kernel) (pa_cons ha (pa_cons hb pa_nil he2) he) (by decide) (by decide) he hpl) fun σ H Q ⟨env, L, P, A, pp, q⟩ =>
  ⟨env, L, _, A, pp, fun x v H1 px k1 o1 b1 => by
    obtain ⟨z, e, pz⟩ := ob_elim px
    obtain ⟨t, h1, h2⟩ := Option.bind_eq_some_iff.mp e
    exact ⟨v, .ty T, _, _, z, rfl, .ty T, ty_bw b1 h1, kit_ty h2, q _ _ H1 pz k1 o1 (.bl _)⟩⟩
theorem isAny_kit {K : PySem.W.Frag} {x : D} {t : String} (ht : tyD x = some t) : ∀ {Ts : List String} {z : Bool}, isAnyD x Ts = some z → PySem.W.kitAny K (.type t) (Ts.map Value.type) = some z
  | [], z, e => by cases e; exact kitAny_nil
  | T :: Ts, z, e => by
    obtain ⟨b, h1, h2⟩ := Option.bind_eq_some_iff.mp e
    obtain ⟨t', h3, h4⟩ := Option.bind_eq_some_iff.mp h1
    rw [ht] at h3
    cases h3
    cases b with
    | true => cases h2; exact kitAny_cons (kit_ty h4) (fun e => by cases e) (fun _ => rfl)
    | false =>
      rw [if_neg Bool.false_ne_true] at h2
      exact kitAny_cons (kit_ty h4) (fun _ => isAny_kit ht h2) (fun e => by cases e)
theorem dd_isiT {T1 T2 : String} {b1 b2 : Expr} {tp : Pos} {x1} (hg : Gl X "isinstance") (hm : X.mg "isinstance" = none) (ha : PE X a (lB F d)) (h1 : PE X b1 (tC (.ty T1))) (h2 : PE X b2 (tC (.ty T2)))
    (s1 : starEach [b1, b2] X.env = (false, eval b1 X.env) :: starEach [b2] X.env := by rfl) (s2 : starEach [b2] X.env = (false, eval b2 X.env) :: starEach [] X.env := by rfl)
    (he : starEach [a, .Tuple [b1, b2] x1 tp] X.env = (false, eval a X.env) :: starEach [.Tuple [b1, b2] x1 tp] X.env := by rfl) (he2 : starEach [.Tuple [b1, b2] x1 tp] X.env = (false, eval (.Tuple [b1, b2] x1 tp) X.env) :: starEach [] X.env := by rfl)
    (hpl : (backTo pos (starEach [.Tuple [b1, b2] x1 tp] X.env)).any (·.1) = false := by rfl) (hK : F.K = X.K := by rfl) :
    PE X (.Call (.Name "isinstance" p) [a, .Tuple [b1, b2] x1 tp] [] pos) (lC F (dIsA [T1, T2] d)) := PE.mono (pe_callB (isiTR hK) hg hm (by decide +kernel) (pa_cons ha (pa_cons (pe_tup (pa_cons h1 (pa_cons h2 pa_nil s2) s1)) pa_nil he2) he) (by decide) (by decide) he hpl) fun σ H Q ⟨env, L, P, A, pp, q⟩ =>
  ⟨env, L, _, A, pp, fun x v H1 px k1 o1 bb => ⟨(by show 2 ≤ sizeLine; decide), fun t ht => by
    obtain ⟨z, e, pz⟩ := ob_elim px
    have A1 := A.step k1 o1
    have b2 : Bw F L (upd H1 t (.tup [.ty T1, .ty T2])) v x := bb.step A1 (.new ht)
    obtain ⟨tt, htt⟩ : ∃ tt, tyD x = some tt := by
      cases hx : tyD x with
      | some tt => exact ⟨tt, rfl⟩
      | none =>
        unfold isAnyD isD at e
        rw [hx] at e
        cases e
    exact ⟨v, t, _, _, _, z, rfl, upd_same, .cons (.ty T1) (.cons (.ty T2) .nil), ty_bw b2 htt, isAny_kit htt e, q _ _ _ pz (k1.trans (.new ht)) (ok_new o1 ht) (.bl _)⟩⟩⟩
def SortS (xs ys : List Str) : Prop := ys.Perm xs ∧ sortedS ys = true
def SortI (xs ys : List Int) : Prop := ys.Perm xs ∧ ys.Pairwise (· ≤ ·)
def txtKeys : List (Key × D) → Option (List Str)
  | [] => some []
  | (.inr x, _) :: r => (txtKeys r).map fun xs => x :: xs
  | _ => none
theorem txtKeys_v : ∀ {kds : List (Key × D)} {xs : List Str}, txtKeys kds = some xs → kds.map (·.1) = xs.map Sum.inr
  | [], _, e => by cases e; rfl
  | (.inr x, d) :: r, _, e => by
    obtain ⟨ys, h1, rfl⟩ := Option.map_eq_some_iff.mp e
    simp [txtKeys_v h1]
  | (.inl x, d) :: r, _, e => by cases e
def dSort (d : TDE) : TDE := fun env P => d env fun x => match x with
  | .lst xs => (∃ zs, strsD xs = some zs ∧ zs.length < 64 ∧ ∀ ys, SortS zs ys → P (.lst (ys.map D.str))) ∨ (∃ zs, intsD xs = some zs ∧ zs.length < 64 ∧ ∀ ys, SortI zs ys → P (.lst (ys.map D.int)))
  | .dic kds => ∃ zs, txtKeys kds = some zs ∧ zs.length < 64 ∧ ∀ ys, SortS zs ys → P (.lst (ys.map D.str))
  | _ => False
theorem sortR (hc : X.calm = true) (hK : F.K = X.K) : CallR X (.builtin "sorted") (fun vs H Q => rSortedS F.K vs H Q ∨ (rSorted F.K vs H Q ∨ (∃ (a : Addr) (kvs : List (Key × V)) (ks : List Str), vs = [.ref a] ∧ Rd H a (.dK kvs) ∧ kvs.map (·.1) = ks.map Sum.inr ∧ ks.length < 64 ∧
    ∀ ys p, ys.Perm ks → sortedS ys = true → H p = none → Q (.ref p) (upd H p (.lst (ys.map V.str)))))) := by
  rw [hK]
  exact CallR.or cr_sortedS (CallR.or cr_sorted (call_sortedD hc))
theorem dn_sort (hg : Gl X "sorted") (hm : X.mg "sorted" = none) (ha : PE X e (lB F d)) (hc : X.calm = true := by rfl) (he : starEach [e] X.env = (false, eval e X.env) :: starEach [] X.env := by rfl) (hpl : (backTo pos (starEach [] X.env)).any (·.1) = false := by rfl) (hK : F.K = X.K := by rfl) :
    PE X (.Call (.Name "sorted" p) [e] [] pos) (lN F (dSort d)) := PE.mono (pe_callB (sortR hc hK) hg hm (by decide +kernel) (pa_cons ha pa_nil he) (by decide) (by decide) he hpl) fun σ H Q ⟨env, L, P, A, pp, q⟩ =>
  ⟨env, L, _, A, pp, fun x v H1 px k1 o1 b1 => by
    have A1 := A.step k1 o1
    cases x with
    | lst xs =>
      obtain ⟨a, vs, rfl, h1, h2⟩ := bw_lst b1
      rcases px with ⟨zs, hz, h64, px⟩ | ⟨zs, hz, h64, px⟩
      · exact .inl ⟨a, zs, rfl, SqL.of (by rw [h1, strs_v h2 hz]), h64, fun ys t py so ht => q _ _ _ (px ys ⟨py, so⟩) (k1.trans (.new ht)) (ok_new o1 ht) (free_of k1 o1 ht) (new_lstN A1 ht (dd_strs ys))⟩
      · exact .inr (.inl ⟨a, zs, rfl, SqL.of (by rw [h1, ints_v h2 hz]), h64, fun ys t py so ht => q _ _ _ (px ys ⟨py, so⟩) (k1.trans (.new ht)) (ok_new o1 ht) (free_of k1 o1 ht) (new_lstN A1 ht (dd_ints ys))⟩)
    | dic kds =>
      obtain ⟨a, kvs, rfl, h1, h2, h3⟩ := bw_dic b1
      obtain ⟨zs, hz, h64, px⟩ := px
      exact .inr (.inr ⟨a, kvs, zs, rfl, h1, by rw [h2]; exact txtKeys_v hz, h64, fun ys t py so ht => q _ _ _ (px ys ⟨py, so⟩) (k1.trans (.new ht)) (ok_new o1 ht) (free_of k1 o1 ht) (new_lstN A1 ht (dd_strs ys))⟩)
    | _ => exact px.elim⟩
def indexOf (xs : List D) (y : D) : Option Nat := xs.findIdx? fun z => eqF z y
def dIndex (dx dy : TDE) : TDE := fun env P => dx env fun x => match x with
  | .lst xs => dy env fun y => xs.all D.leaf = true ∧ y.leaf = true ∧ ob (indexOf xs y) fun j => P (.int (j : Nat))
  | _ => False
end
end DL
namespace DL
open PySem PySem.Spec PyProof.Rows L2 RK
abbrev DSp := List D → (D → Prop) → Prop
structure Nw (K : PySem.W.Frag) (W : Wd) (N0 : Addr → Prop) (H : Hp) (fr : Fr) (H' : Hp) (v : V) (x : D) : Prop where
  n : fr = .b true → ∃ a, v = .ref a ∧ H a = none ∧ NewV ⟨K, W, N0, H, .b true⟩ [] H' a x
  c : ∀ j, fr = .ch j → Ch j H H' v x
  p : fr = .pr → Dd K (starN N0 H) W H' v x
def lSp (K : PySem.W.Frag) (fr : Fr) (sp : DSp) : Sp := fun vs H Q _ => ∃ (W : Wd) (N0 : Addr → Prop) (ds : List D) (P : D → Prop), (∀ a, N0 a → ∃ o : HoN, H a = some o.1) ∧ (∀ a, W.own a → N0 a) ∧ W.ok H ∧ DdAll K N0 W H vs ds ∧ sp ds P ∧
  ∀ x v H', P x → KeepW W H H' → W.ok H' → Dd K N0 W H' v x → Nw K W N0 H fr H' v x → Q v H'
section
variable {X : Cx} {F : Fx} {e a b c : Expr} {es : List Expr} {d da db dc : TDE} {ds dk : TDA} {pos p : Pos}
def dCall (sp : DSp) (ds : TDA) : TDE := fun env P => ds env fun xs => sp xs P
theorem lcall {fr : Fr} {sp : DSp} {E : XK} {K : PySem.W.Frag} (hK : F.K = K) : ∀ σ H Q, lC F (dCall sp ds) σ H Q → tCall (lSp K fr sp) [] E (lA F ds) σ H Q := fun σ H Q ⟨env, L, P, A, pp, q⟩ => by
  subst hK
  exact ⟨env, L, _, A, pp, fun xs vs H1 px k1 o1 d1 => ⟨F.W, F.N L, xs, P, fun a h => (A.step k1 o1).alN h, fun a h => .inl (A.wn a h), o1, by rw [List.append_nil]; exact d1, px, fun x v H2 p2 k2 o2 d2 _ => q x v H2 p2 (k1.trans k2) o2 d2⟩⟩
theorem new_of {K : PySem.W.Frag} {W : Wd} {N0 : Addr → Prop} {H H' : Hp} {fr : Fr} {L : List Addr} {a : Addr} {x : D} {F : Fx} (e1 : F.K = K) (e2 : F.W = W) (e3 : F.N L = N0) (h : NewV ⟨K, W, N0, H, .b true⟩ [] H' a x) : NewV F L H' a x := by
  subst e1 e2
  have sub : ∀ y, F.N (a :: L) y → Fx.N ⟨F.K, F.W, N0, H, .b true⟩ [a] y := fun y hy => by
    rcases hy with hy | hy
    · left
      show N0 y
      rw [← e3]
      exact .inl hy
    · rcases List.mem_cons.mp hy with hy | hy
      · exact .inr (by rw [hy]; exact List.mem_cons_self)
      · left
        show N0 y
        rw [← e3]
        exact .inr hy
  have key : ∀ {vs : List V} {ds : List D}, DdAll F.K (Fx.N ⟨F.K, F.W, N0, H, .b true⟩ [a]) F.W H' vs ds → DdAll F.K (F.N (a :: L)) F.W H' vs ds := fun h => h.keep (fun _ _ _ z => z) sub
  cases x with
  | tr G ds => obtain ⟨vs, h1, h2⟩ := h; exact ⟨vs, h1, h2.pres fun x o q e => ⟨fun z => q (sub x z), e⟩⟩
  | lst ds => obtain ⟨vs, h1, h2⟩ := h; exact ⟨vs, h1, key h2⟩
  | tup ds => obtain ⟨vs, h1, h2⟩ := h; exact ⟨vs, h1, key h2⟩
  | dic ds => obtain ⟨vs, h1, h3, h2⟩ := h; exact ⟨vs, h1, h3, key h2⟩
  | dct ds => obtain ⟨vs, h1, h3, h2⟩ := h; exact ⟨vs, h1, h3, key h2⟩
  | _ => exact h
theorem lcallN {sp : DSp} {E : XK} {K : PySem.W.Frag} (hK : F.K = K) : ∀ σ H Q, lN F (dCall sp ds) σ H Q → tCall (lSp K (.b true) sp) [] E (lA F ds) σ H Q := fun σ H Q ⟨env, L, P, A, pp, q⟩ => by
  subst hK
  refine ⟨env, L, _, A, pp, fun xs vs H1 px k1 o1 d1 => ⟨F.W, F.N L, xs, P, fun a h => (A.step k1 o1).alN h, fun a h => .inl (A.wn a h), o1, by rw [List.append_nil]; exact d1, px, fun x v H2 p2 k2 o2 d2 nn => ?_⟩⟩
  obtain ⟨a, rfl, h1, h2⟩ := nn.n rfl
  exact q x a H2 p2 (k1.trans k2) o2 (free_of k1 o1 h1) (new_of (fr := .b true) rfl rfl rfl h2)
variable {CX : CXT} {k : Nat} {f : Addr} {fd : FuncData} {ps ks : List Str} {sp : DSp} {E : XK} {x : Str} {fr : Fr} {K : PySem.W.Frag}
theorem dd_call (G : FnOk X.prog X.w X.K X.mg X.base CX k f fd ps (lSp K fr sp)) (hr : Room k X.A) (hg : Gl X x) (hm : X.mg x = some (.ref f)) (hk : PySem.W.keepIn X.K (.ref f) = true) (hb : Binds X.K fd ps []) (hx : Passes CX X E) (ha : PA X (e :: es) (lA F ds)) (hK : F.K = K := by rfl)
    (he : starEach (e :: es) X.env = (false, eval e X.env) :: starEach es X.env := by rfl) (hpl : (backTo pos (starEach es X.env)).any (·.1) = false := by rfl) (hdb : (x == ("__debug__" : Str)) = false := by decide) :
    PE X (.Call (.Name x p) (e :: es) [] pos) (lC F (dCall sp ds)) := PE.mono (pe_call G hr hg hm hk hb .nil hx ha hdb he hpl) (lcall hK)
theorem dn_call (G : FnOk X.prog X.w X.K X.mg X.base CX k f fd ps (lSp K (.b true) sp)) (hr : Room k X.A) (hg : Gl X x) (hm : X.mg x = some (.ref f)) (hk : PySem.W.keepIn X.K (.ref f) = true) (hb : Binds X.K fd ps []) (hx : Passes CX X E) (ha : PA X (e :: es) (lA F ds)) (hK : F.K = K := by rfl)
    (he : starEach (e :: es) X.env = (false, eval e X.env) :: starEach es X.env := by rfl) (hpl : (backTo pos (starEach es X.env)).any (·.1) = false := by rfl) (hdb : (x == ("__debug__" : Str)) = false := by decide) :
    PE X (.Call (.Name x p) (e :: es) [] pos) (lN F (dCall sp ds)) := PE.mono (pe_call G hr hg hm hk hb .nil hx ha hdb he hpl) (lcallN hK)
end
structure DEnds where
  nx : De → Prop
  rt : D → Prop
  bk : De → Prop := fun _ => False
  ct : De → Prop := fun _ => False
abbrev TDS := DEnds → De → Prop
def Pres (F : Fx) (L : List Addr) (H : Hp) (L' : List Addr) (H' : Hp) : Prop := ∀ a o, ¬ F.N L a → H a = some o → ¬ F.N L' a ∧ H' a = some o
theorem Pres.refl (F : Fx) (L : List Addr) (H : Hp) : Pres F L H L H := fun _ _ n h => ⟨n, h⟩
theorem Pres.trans {F : Fx} {L L1 L2 : List Addr} {H H1 H2 : Hp} (a : Pres F L H L1 H1) (b : Pres F L1 H1 L2 H2) : Pres F L H L2 H2 := fun x o n h => b x o (a x o n h).1 (a x o n h).2
theorem KeepW.pres {F : Fx} {env : De} {σ : L2.St} {L : List Addr} {H H' : Hp} (A : Abs F env σ L H) (k : KeepW F.W H H') : Pres F L H L H' := fun x o n h => ⟨n, k x o (nw_of A n) h⟩
structure RetOk (F : Fx) (H' : Hp) (v : V) (x : D) : Prop where
  kp : KeepW F.W F.H0 H'
  ok : F.W.ok H'
  dd : Dd F.K F.N0 F.W H' v x
  nw : F.fr = .b true → ∃ a, v = .ref a ∧ F.H0 a = none ∧ NewV F [] H' a x
  cj : ∀ j, F.fr = .ch j → Ch j F.H0 H' v x
  oj : ∀ R, F.fr = .ob R → R H'
  pj : F.fr = .pr → Dd F.K (starN F.N0 F.H0) F.W H' v x
def lS (F : Fx) (d : TDS) : TS := fun E σ H => ∃ env L P, Abs F env σ L H ∧ d P env ∧ (∀ env' σ' L' H', P.nx env' → Abs F env' σ' L' H' → Pres F L H L' H' → E.nx σ' H') ∧ (∀ x v H', P.rt x → RetOk F H' v x → E.rt v H') ∧
  (∀ env' σ' L' H', P.bk env' → Abs F env' σ' L' H' → Pres F L H L' H' → E.bk σ' H') ∧ (∀ env' σ' L' H', P.ct env' → Abs F env' σ' L' H' → Pres F L H L' H' → E.ct σ' H')
section
variable {X : Cx} {F : Fx} {e a b c : Expr} {es : List Expr} {d da db dc : TDE} {ds : TDA} {pos p : Pos} {st : Stmt} {rest sa sb : List Stmt} {s1 s2 : TDS} {tA : TDT}
def sNil : TDS := fun P env => P.nx env
def sSeq (s1 s2 : TDS) : TDS := fun P env => s1 { P with nx := s2 P } env
theorem ss_nil : PSs X [] (lS F sNil) := PSs.mono pss_nil fun E σ H ⟨env, L, P, A, pp, hn, _⟩ => hn env σ L H pp A (.refl _ _ _)
theorem ss_cons (h1 : PS X st (lS F s1)) (h2 : PSs X rest (lS F s2)) : PSs X (st :: rest) (lS F (sSeq s1 s2)) := PSs.mono (pss_cons h1 h2) fun E σ H ⟨env, L, P, A, pp, hn, hr, hb, hc⟩ =>
  ⟨env, L, _, A, pp, fun env' σ' L' H' pn A' pr => ⟨env', L', P, A', pn, fun env2 σ2 L2 H2 p2 A2 pr2 => hn env2 σ2 L2 H2 p2 A2 (pr.trans pr2), hr, fun env2 σ2 L2 H2 p2 A2 pr2 => hb env2 σ2 L2 H2 p2 A2 (pr.trans pr2), fun env2 σ2 L2 H2 p2 A2 pr2 => hc env2 σ2 L2 H2 p2 A2 (pr.trans pr2)⟩, hr, hb, hc⟩
theorem ss_one (h1 : PS X st (lS F s1)) : PSs X [st] (lS F s1) := pss_one h1
def sNever : TDS := fun _ _ => False
def sBrk : TDS := fun P env => P.bk env
def sCont : TDS := fun P env => P.ct env
def sIf (t : TDT) (s1 s2 : TDS) : TDS := fun P env => t env fun x => if x = true then s1 P env else s2 P env
theorem ds_if (hc : PT X c (lT F tA)) (ha : PSs X sa (lS F s1)) (hb : PSs X sb (lS F s2)) : PS X (.If c sa sb pos) (lS F (sIf tA s1 s2)) := PS.mono (ps_if hc ha hb) fun E σ H ⟨env, L, P, A, pp, hn, hr, hb, hc⟩ =>
  ⟨env, L, _, A, pp, fun x H1 px k1 o1 => by
    have pr : Pres F L H L H1 := k1.pres A
    cases x with
    | true => exact iteT ⟨env, L, P, A.step k1 o1, px, fun env2 σ2 L2 H2 p2 A2 pr2 => hn env2 σ2 L2 H2 p2 A2 (pr.trans pr2), hr, fun env2 σ2 L2 H2 p2 A2 pr2 => hb env2 σ2 L2 H2 p2 A2 (pr.trans pr2), fun env2 σ2 L2 H2 p2 A2 pr2 => hc env2 σ2 L2 H2 p2 A2 (pr.trans pr2)⟩
    | false => exact iteF ⟨env, L, P, A.step k1 o1, px, fun env2 σ2 L2 H2 p2 A2 pr2 => hn env2 σ2 L2 H2 p2 A2 (pr.trans pr2), hr, fun env2 σ2 L2 H2 p2 A2 pr2 => hb env2 σ2 L2 H2 p2 A2 (pr.trans pr2), fun env2 σ2 L2 H2 p2 A2 pr2 => hc env2 σ2 L2 H2 p2 A2 (pr.trans pr2)⟩⟩
theorem n0_sub {L : List Addr} : ∀ x, F.N0 x → F.N L x := fun x h => .inl h
theorem ret_of {env : De} {σ : L2.St} {L : List Addr} {H H' : Hp} {v : V} {x : D} (A : Abs F env σ L H) (k : KeepW F.W H H') (o : F.W.ok H') (h : Dd F.K (F.N L) F.W H' v x) (nf : F.fr = .b false) : RetOk F H' v x :=
  ⟨A.kp.trans k, o, h.keep (fun _ _ _ z => z) n0_sub, fun z => (by rw [nf] at z; cases z), fun j z => (by rw [nf] at z; cases z), fun j z => (by rw [nf] at z; cases z), fun z => by rw [nf] at z; cases z⟩
def sRet (d : TDE) : TDS := fun P env => d env P.rt
theorem ds_ret (nf : F.fr = .b false) (he : PE X e (lC F d)) : PS X (.Return (some e) pos) (lS F (sRet d)) := PS.mono (ps_ret he) fun E σ H ⟨env, L, P, A, pp, hn, hr, _⟩ =>
  ⟨env, L, _, A, pp, fun x v H' px k o dd => hr x v H' px (ret_of A k o dd nf)⟩
theorem n0_new {L : List Addr} {a : Addr} : ∀ x, F.N [a] x → F.N (a :: L) x := fun x h => by
  rcases h with h | h
  · exact .inl h
  · rcases List.mem_cons.mp h with h | h
    · exact .inr (by rw [h]; exact List.mem_cons_self)
    · cases h
theorem NewV.small {L : List Addr} {H : Hp} {a : Addr} : ∀ {x : D}, NewV F L H a x → NewV F [] H a x
  | .lst ds, ⟨vs, h, g⟩ => ⟨vs, h, g.keep (fun _ _ _ z => z) n0_new⟩
  | .tup ds, ⟨vs, h, g⟩ => ⟨vs, h, g.keep (fun _ _ _ z => z) n0_new⟩
  | .dic ds, ⟨vs, h, e, g⟩ => ⟨vs, h, e, g.keep (fun _ _ _ z => z) n0_new⟩
  | .dct ds, ⟨vs, h, e, g⟩ => ⟨vs, h, e, g.keep (fun _ _ _ z => z) n0_new⟩
  | .tr G ds, ⟨vs, h, g⟩ => ⟨vs, h, g.pres fun x o q e => ⟨fun z => q (n0_new x z), e⟩⟩
theorem ds_retN (he : PE X e (lN F d)) (nf : ∀ j, F.fr ≠ .ch j := by intro j h; cases h) (no : ∀ R, F.fr ≠ .ob R := by intro j h; cases h) (np : F.fr ≠ .pr := by intro h; cases h) : PS X (.Return (some e) pos) (lS F (sRet d)) := PS.mono (ps_ret he) fun E σ H ⟨env, L, P, A, pp, hn, hr, _⟩ =>
  ⟨env, L, _, A, pp, fun x a H' px k o n nv => hr x _ H' px ⟨A.kp.trans k, o, (nv.dd (A.new n)).keep (fun _ _ _ z => z) n0_sub, fun _ => ⟨a, rfl, free_of A.kp A.ok n, nv.small⟩, fun j z => (nf j z).elim, fun j z => (no j z).elim, fun z => (np z).elim⟩⟩
def owD : En → Option D
  | .ow ds => some (.lst ds)
  | .od ds => some (.dic ds)
  | .ot ds => some (.dct ds)
  | .otr G ds => some (.tr G ds)
  | _ => none
def sRetO (i : Nat) : TDS := fun P env => ob (env[i]?.bind owD) P.rt
theorem ow_new {env : De} {σ : L2.St} {L : List Addr} {H : Hp} (A : Abs F env σ L H) {a : Addr} {e : En} {x : D} (h : EnOk F L H e (some (.ref a))) (hx : owD e = some x) : a ∈ L ∧ NewV F [] H a x := by
  have sub : ∀ y, F.N [a] y → a ∈ L → F.N L y := fun y hy ha => by
    rcases hy with hy | hy
    · exact .inl hy
    · rcases List.mem_cons.mp hy with hy | hy
      · rw [hy]; exact .inr ha
      · cases hy
  cases e with
  | ow ds =>
    cases hx
    obtain ⟨h1, vs, h2, h3⟩ := h
    exact ⟨h1, vs, h2, h3.keep (fun _ _ _ z => z) fun y hy => sub y hy h1⟩
  | od ds =>
    cases hx
    obtain ⟨h1, vs, h2, h4, h3⟩ := h
    exact ⟨h1, vs, h2, h4, h3.keep (fun _ _ _ z => z) fun y hy => sub y hy h1⟩
  | otr G ds =>
    cases hx
    obtain ⟨h1, vs, h2, h3⟩ := h
    exact ⟨h1, vs, h2, h3.pres fun x o q e => ⟨fun z => q (sub x z h1), e⟩⟩
  | ot ds =>
    cases hx
    obtain ⟨h1, vs, h2, h4, h3⟩ := h
    exact ⟨h1, vs, h2, h4, h3.keep (fun _ _ _ z => z) fun y hy => sub y hy h1⟩
  | _ => cases hx
theorem owD_ref {L : List Addr} {H : Hp} {e : En} {v : V} {x : D} (h : EnOk F L H e (some v)) (hx : owD e = some x) : ∃ a, v = .ref a := by
  cases e <;> try cases hx
  all_goals (cases v <;> first | exact h.elim | exact ⟨_, rfl⟩)
theorem ds_retO {i : Nat} (he : PE X e (tVar i)) (no : ∀ R, F.fr ≠ .ob R := by intro j h; cases h) (np : F.fr ≠ .pr := by intro h; cases h) : PS X (.Return (some e) pos) (lS F (sRetO i)) := PS.mono (ps_ret he) fun E σ H ⟨env, L, P, A, pp, hn, hr, _⟩ => by
  obtain ⟨x, hx, px⟩ := ob_elim pp
  obtain ⟨en, h1, h2⟩ := Option.bind_eq_some_iff.mp hx
  obtain ⟨v, h3, h4⟩ := abs_at A h1 (by rintro rfl; cases h2)
  obtain ⟨a, rfl⟩ := owD_ref h4 h2
  obtain ⟨h5, h6⟩ := ow_new A h4 h2
  have nw : ¬ F.N [] a := fun z => by
    rcases z with z | z
    · exact A.out h5 z
    · cases z
  exact ⟨_, h3, hr x _ H px ⟨A.kp, A.ok, (h6.dd nw).keep (fun _ _ _ z => z) n0_sub, fun _ => ⟨a, rfl, (A.fr a h5).1, h6⟩, fun j _ xs ys ex => (by subst ex; cases en <;> cases h2), fun j z => (no j z).elim, fun z => (np z).elim⟩⟩
def sRetE : TDS := fun P _ => P.rt .non
end
end DL
namespace DL
open PySem PySem.Spec PyProof.Rows L2 RK
section
variable {F : Fx} {env : De} {σ : L2.St} {L : List Addr} {H H' : Hp}
theorem Abs.setF (A : Abs F env σ L H) {v : V} {x : D} (h : Dd F.K (F.N L) F.W H v x) (i : Nat) : Abs F (env.set i (.fz x)) (σ.set i (some v)) L H := by
  refine ⟨A.ok, A.al, A.wn, A.kp, A.fr, by rw [List.length_set, List.length_set, A.ls], fun j l a ej el h1 h2 o1 o2 s1 s2 => ?_, A.so.set0 rfl rfl _, fun j e y h1 h2 => ?_⟩
  · by_cases hj : i = j
    · subst hj
      by_cases hi : i < env.length
      · rw [List.getElem?_set_self hi] at h1
        cases h1
        cases o1
      · rw [List.getElem?_eq_none (by rw [List.length_set]; omega)] at h1
        cases h1
    · by_cases hl : i = l
      · subst hl
        by_cases hi : i < env.length
        · rw [List.getElem?_set_self hi] at h2
          cases h2
          cases o2
        · rw [List.getElem?_eq_none (by rw [List.length_set]; omega)] at h2
          cases h2
      · rw [List.getElem?_set_ne hj] at h1 s1
        rw [List.getElem?_set_ne hl] at h2 s2
        exact A.sep j l a ej el h1 h2 o1 o2 s1 s2
  · by_cases hj : i = j
    · subst hj
      by_cases hi : i < env.length
      · rw [List.getElem?_set_self hi] at h1
        rw [List.getElem?_set_self (by rw [← A.ls]; exact hi)] at h2
        cases h1
        cases h2
        exact h
      · rw [List.getElem?_eq_none (by rw [List.length_set]; omega)] at h1
        cases h1
    · rw [List.getElem?_set_ne hj] at h1 h2
      exact A.en j e y h1 h2
theorem Abs.grow (A : Abs F env σ L H) {L' : List Addr} (k : KeepW F.W H H') (o : F.W.ok H') (pr : Pres F L H L' H') (sub : ∀ a ∈ L, a ∈ L') (new : ∀ a ∈ L', a ∈ L ∨ (H a = none ∧ ∃ o, H' a = some o ∧ Plo o)) : Abs F env σ L' H' := by
  have w : ∀ a ∈ L, ¬ F.W.own a := fun a h z => A.out h (A.wn a z)
  refine ⟨o, A.al, A.wn, A.kp.trans k, fun a h => ?_, A.ls, A.sep, A.so, fun i e x h1 h2 => ?_⟩
  · rcases new a h with h | ⟨h1, h2⟩
    · obtain ⟨h1, u, h2, pl⟩ := A.fr a h
      exact ⟨h1, u, k a u (w a h) h2, pl⟩
    · exact ⟨free_of A.kp A.ok h1, h2⟩
  · have q := A.en i e x h1 h2
    cases e with
    | no => exact trivial
    | fz d => cases x with
      | none => exact q.elim
      | some v => exact Dd.pres pr q
    | oo C a fs => cases x with
      | none => exact q.elim
      | some v => cases v with
        | ref b =>
          obtain ⟨q1, q2, q3, dx, vs, q4, q5⟩ := q
          have q2' := fun x hx => q2 x (List.mem_cons_of_mem _ hx)
          have q2a := q2 a List.mem_cons_self
          exact ⟨q1, fun x hx => sub x (q2 x hx), q3, dx, vs, k a _ (w a q2a) q4, q5.pres pr fun x hx o => k x o (w x (q2' x hx))⟩
        | _ => exact q.elim
    | fe e => cases x with
      | none => exact q.elim
      | some v => exact ⟨fun x hx => sub x (q.1 x hx), q.2.1, q.2.2.pres pr fun x hx o => k x o (w x (q.1 x hx))⟩
    | ow ds => cases x with
      | none => exact q.elim
      | some v => cases v with
        | ref a =>
          obtain ⟨q1, vs, q2, q3⟩ := q
          exact ⟨sub a q1, vs, k a _ (w a q1) q2, q3.pres pr⟩
        | _ => exact q.elim
    | od ds => cases x with
      | none => exact q.elim
      | some v => cases v with
        | ref a =>
          obtain ⟨q1, vs, q2, q4, q3⟩ := q
          exact ⟨sub a q1, vs, k a _ (w a q1) q2, q4, q3.pres pr⟩
        | _ => exact q.elim
    | ot ds => cases x with
      | none => exact q.elim
      | some v => cases v with
        | ref a =>
          obtain ⟨q1, vs, q2, q4, q3⟩ := q
          exact ⟨sub a q1, vs, k a _ (w a q1) q2, q4, q3.pres pr⟩
        | _ => exact q.elim
    | otr G ds => cases x with
      | none => exact q.elim
      | some v => cases v with
        | ref a =>
          obtain ⟨q1, vs, q2, q3⟩ := q
          exact ⟨sub a q1, vs, k a _ (w a q1) q2, q3.pres pr⟩
        | _ => exact q.elim
theorem pres_cons (A : Abs F env σ L H) (k : KeepW F.W H H') {a : Addr} (n : H a = none) : Pres F L H (a :: L) H' := fun x o q h => ⟨fun z => by
  rcases z with z | z
  · exact q (.inl z)
  · rcases List.mem_cons.mp z with z | z
    · rw [z, n] at h
      cases h
    · exact q (.inr z), k x o (nw_of A q) h⟩
def D.isTp : D → Bool
  | .tup _ => true
  | _ => false
theorem new_there {F : Fx} {L : List Addr} {H : Hp} {a : Addr} : ∀ {x : D}, x.isTp = false → NewV F L H a x → ∃ o, H a = some o ∧ Plo o
  | .lst ds, _, ⟨vs, h, _⟩ => ⟨_, h, True.intro⟩
  | .dic ds, _, ⟨vs, h, _⟩ => ⟨_, h, True.intro⟩
  | .dct ds, _, ⟨vs, h, _⟩ => ⟨_, h, True.intro⟩
  | .tr G ds, _, ⟨vs, h, _⟩ => ⟨_, h, ⟨_, _, _, rfl⟩⟩
theorem enOf_nt {x : D} {e : En} (h : (match x with | .lst xs => some (En.ow xs) | .dic xs => some (.od xs) | .dct xs => some (.ot xs) | .tr G xs => some (.otr G xs) | _ => none) = some e) : x.isTp = false := by cases x <;> first | rfl | cases h
def enOf : D → Option En
  | .lst xs => some (.ow xs)
  | .dic xs => some (.od xs)
  | .dct xs => some (.ot xs)
  | .tr G xs => some (.otr G xs)
  | _ => none
theorem en_new {a : Addr} : ∀ {x : D} {e : En}, NewV F L H a x → enOf x = some e → EnOk F (a :: L) H e (some (.ref a)) ∧ e.isOw = true
  | .lst xs, _, ⟨vs, h, g⟩, q => by cases q; exact ⟨⟨List.mem_cons_self, vs, h, g⟩, rfl⟩
  | .dic xs, _, ⟨vs, h, e, g⟩, q => by cases q; exact ⟨⟨List.mem_cons_self, vs, h, e, g⟩, rfl⟩
  | .dct xs, _, ⟨vs, h, e, g⟩, q => by cases q; exact ⟨⟨List.mem_cons_self, vs, h, e, g⟩, rfl⟩
  | .tr G xs, _, ⟨vs, h, g⟩, q => by cases q; exact ⟨⟨List.mem_cons_self, vs, h, g⟩, rfl⟩
theorem Abs.setO (A : Abs F env σ L H) (k : KeepW F.W H H') (o : F.W.ok H') {a : Addr} {x : D} {e : En} (n : H a = none) (h : NewV F L H' a x) (he : enOf x = some e) (i : Nat) : Abs F (env.set i e) (σ.set i (some (.ref a))) (a :: L) H' := by
  have pr := pres_cons A k n
  have B : Abs F env σ (a :: L) H' := A.grow k o pr (fun b hb => List.mem_cons_of_mem _ hb) fun b hb => by
    rcases List.mem_cons.mp hb with hb | hb
    · exact .inr ⟨hb ▸ n, hb ▸ new_there (enOf_nt he) h⟩
    · exact .inl hb
  obtain ⟨en, ow⟩ := en_new h he
  have no : ∀ (j : Nat) (ej : En), env[j]? = some ej → ej.isOw = true → σ[j]? = some (some (.ref a)) → False := fun j ej h1 h2 h3 => by
    have q := A.en j ej _ h1 h3
    have al : a ∈ L := by
      cases ej with
      | ow _ => exact q.1
      | od _ => exact q.1
      | ot _ => exact q.1
      | otr _ _ => exact q.1
      | no => cases h2
      | fz _ => cases h2
      | oo _ _ _ => cases h2
      | fe _ => cases h2
    obtain ⟨_, u, hu, _⟩ := A.fr a al
    rw [n] at hu
    cases hu
  refine ⟨B.ok, B.al, B.wn, B.kp, B.fr, by rw [List.length_set, List.length_set, A.ls], fun j l b ej el h1 h2 o1 o2 s1 s2 => ?_, A.so.setW A.ls (ad_ow ow) (loneO A n), fun j e' y h1 h2 => ?_⟩
  · by_cases hi : i < env.length
    · have hi2 : i < σ.length := by rw [← A.ls]; exact hi
      by_cases hj : i = j
      · by_cases hl : i = l
        · omega
        · subst hj
          rw [List.getElem?_set_self hi2] at s1
          cases s1
          rw [List.getElem?_set_ne hl] at h2 s2
          exact (no l el h2 o2 s2).elim
      · rw [List.getElem?_set_ne hj] at h1 s1
        by_cases hl : i = l
        · subst hl
          rw [List.getElem?_set_self hi2] at s2
          cases s2
          exact (no j ej h1 o1 s1).elim
        · rw [List.getElem?_set_ne hl] at h2 s2
          exact A.sep j l b ej el h1 h2 o1 o2 s1 s2
    · have e1 : env.set i e = env := List.set_eq_of_length_le (by omega)
      have e2 : σ.set i (some (V.ref a)) = σ := List.set_eq_of_length_le (by rw [← A.ls]; omega)
      rw [e1] at h1 h2
      rw [e2] at s1 s2
      exact A.sep j l b ej el h1 h2 o1 o2 s1 s2
  · by_cases hj : i = j
    · subst hj
      by_cases hi : i < env.length
      · rw [List.getElem?_set_self hi] at h1
        rw [List.getElem?_set_self (by rw [← A.ls]; exact hi)] at h2
        cases h1
        cases h2
        exact en
      · rw [List.getElem?_eq_none (by rw [List.length_set]; omega)] at h1
        cases h1
    · rw [List.getElem?_set_ne hj] at h1 h2
      exact B.en j e' y h1 h2
theorem Abs.write (A : Abs F env σ L H) {i : Nat} {a : Addr} {e e' : En} {o' : HO} (hi : env[i]? = some e) (ow : e.isOw = true) (hs : σ[i]? = some (some (.ref a))) (ha : a ∈ L) (ow' : e'.isOw = true)
    (new : EnOk F L (upd H a o') e' (some (.ref a))) (po : Plo o' := by exact True.intro) : Abs F (env.set i e') σ L (upd H a o') ∧ Pres F L H L (upd H a o') := by
  have na : ¬ F.N0 a := A.out ha
  have nw : ¬ F.W.own a := fun z => na (A.wn a z)
  have pr : Pres F L H L (upd H a o') := fun x u q h => ⟨q, by
    have ne : x ≠ a := fun z => q (.inr (by rw [z]; exact ha))
    rw [upd_ne ne]
    exact h⟩
  have hil : i < env.length := (List.getElem?_eq_some_iff.mp hi).1
  refine ⟨⟨?_, A.al, A.wn, fun x u q h => ?_, fun b hb => ?_, by rw [List.length_set, A.ls], fun j l b ej el h1 h2 o1 o2 s1 s2 => ?_, A.so.wr (ad_ow ow') hi ow, fun j e2 y h1 h2 => ?_⟩, pr⟩
  · exact Wd.st A.ok (n := noT_upd po.ntb) fun b u h q => by
      have ne : b ≠ a := fun z => by
        rcases q with q | q
        · exact nw (by rw [← z]; exact q)
        · obtain ⟨_, o, e, pl⟩ := A.fr a ha
          rw [z, e] at h
          exact q (Option.some.inj h ▸ pl)
      rw [upd_ne ne]
      exact h
  · have hx := A.kp x u q h
    have ne : x ≠ a := fun z => by
      rw [z, (A.fr a ha).1] at h
      cases h
    rw [upd_ne ne]
    exact hx
  · refine ⟨(A.fr b hb).1, ?_⟩
    by_cases e : b = a
    · subst e
      exact ⟨_, upd_same, po⟩
    · rw [upd_ne e]
      exact (A.fr b hb).2
  · have f1 : ∀ (j : Nat) (ej : En), (env.set i e')[j]? = some ej → ej.isOw = true → ∃ e0 : En, env[j]? = some e0 ∧ e0.isOw = true := fun j ej h o => by
      by_cases hj : i = j
      · subst hj
        exact ⟨e, hi, ow⟩
      · rw [List.getElem?_set_ne hj] at h
        exact ⟨ej, h, o⟩
    obtain ⟨e1, g1, g2⟩ := f1 j ej h1 o1
    obtain ⟨e3, g3, g4⟩ := f1 l el h2 o2
    exact A.sep j l b e1 e3 g1 g3 g2 g4 s1 s2
  · by_cases hj : i = j
    · subst hj
      rw [List.getElem?_set_self hil] at h1
      cases h1
      rw [hs] at h2
      cases h2
      exact new
    · rw [List.getElem?_set_ne hj] at h1
      refine EnOk.keep A (fun x u q h => (pr x u q h).2) (fun _ z => z) (fun b hb ob hbL => ⟨hbL, fun u hu => ?_⟩) (fun b hb hbL => ⟨hbL, fun u hu => by
        have : b ≠ a := fun z => (A.so j e2 b h1 hb).1 i e hi ow (by rw [z]; exact hs)
        rw [upd_ne this]
        exact hu⟩) (A.en j e2 y h1 h2)
      have : b ≠ a := fun z => hj (A.sep i j a e e2 hi h1 ow ob hs (by rw [h2, hb, z]))
      rw [upd_ne this]
      exact hu
end
end DL
namespace DL
open PySem PySem.Spec PyProof.Rows L2 RK
section
variable {F : Fx} {env : De} {σ : L2.St} {L : List Addr} {H H' : Hp}
def Lone (env : De) (σ : L2.St) (a : Addr) : Prop := (∀ (j : Nat) (ej : En), env[j]? = some ej → ej.isOw = true → σ[j]? = some (some (.ref a)) → False) ∧ ∀ (j : Nat) (ej : En), env[j]? = some ej → a ∉ ej.ad
theorem Abs.lone (A : Abs F env σ L H) {a : Addr} (n : H a = none) : Lone env σ a := ⟨fun j ej h1 h2 h3 => (by
  have q := A.en j ej _ h1 h3
  have al : a ∈ L := by
    cases ej with
    | ow _ => exact q.1
    | od _ => exact q.1
    | ot _ => exact q.1
    | otr _ _ => exact q.1
    | no => cases h2
    | fz _ => cases h2
    | oo _ _ _ => cases h2
    | fe _ => cases h2
  obtain ⟨_, u, hu, _⟩ := A.fr a al
  rw [n] at hu
  cases hu), loneO A n⟩
theorem Abs.setW (A : Abs F env σ L H) {a : Addr} {e : En} (no : Lone env σ a) (en : EnOk F L H e (some (.ref a))) (i : Nat) (h0 : e.ad = [] := by rfl) : Abs F (env.set i e) (σ.set i (some (.ref a))) L H := by
  refine ⟨A.ok, A.al, A.wn, A.kp, A.fr, by rw [List.length_set, List.length_set, A.ls], fun j l b ej el h1 h2 o1 o2 s1 s2 => ?_, A.so.setW A.ls h0 no.2, fun j e' y h1 h2 => ?_⟩
  · by_cases hi : i < env.length
    · have hi2 : i < σ.length := by rw [← A.ls]; exact hi
      by_cases hj : i = j
      · by_cases hl : i = l
        · omega
        · subst hj
          rw [List.getElem?_set_self hi2] at s1
          cases s1
          rw [List.getElem?_set_ne hl] at h2 s2
          exact (no.1 l el h2 o2 s2).elim
      · rw [List.getElem?_set_ne hj] at h1 s1
        by_cases hl : i = l
        · subst hl
          rw [List.getElem?_set_self hi2] at s2
          cases s2
          exact (no.1 j ej h1 o1 s1).elim
        · rw [List.getElem?_set_ne hl] at h2 s2
          exact A.sep j l b ej el h1 h2 o1 o2 s1 s2
    · have e1 : env.set i e = env := List.set_eq_of_length_le (by omega)
      have e2 : σ.set i (some (V.ref a)) = σ := List.set_eq_of_length_le (by rw [← A.ls]; omega)
      rw [e1] at h1 h2
      rw [e2] at s1 s2
      exact A.sep j l b ej el h1 h2 o1 o2 s1 s2
  · by_cases hj : i = j
    · subst hj
      by_cases hi : i < env.length
      · rw [List.getElem?_set_self hi] at h1
        rw [List.getElem?_set_self (by rw [← A.ls]; exact hi)] at h2
        cases h1
        cases h2
        exact en
      · rw [List.getElem?_eq_none (by rw [List.length_set]; omega)] at h1
        cases h1
    · rw [List.getElem?_set_ne hj] at h1 h2
      exact A.en j e' y h1 h2
theorem Lone.setF {a : Addr} (h : Lone env σ a) (i : Nat) (x : D) (v : V) (l : env.length = σ.length) : Lone (env.set i (.fz x)) (σ.set i (some v)) a := ⟨fun j ej h1 h2 h3 => (by
  by_cases hj : i = j
  · subst hj
    by_cases hi : i < env.length
    · rw [List.getElem?_set_self hi] at h1
      cases h1
      cases h2
    · rw [List.getElem?_eq_none (by rw [List.length_set]; omega)] at h1
      cases h1
  · rw [List.getElem?_set_ne hj] at h1 h3
    exact h.1 j ej h1 h2 h3), fun j ej hj => by
  rcases get_set hj with ⟨_, rfl, _⟩ | ⟨_, hj2⟩
  · exact fun z => by cases z
  · exact h.2 j ej hj2⟩
theorem Lone.setW {a b : Addr} (h : Lone env σ a) (i : Nat) (e : En) (n : b ≠ a) (l : env.length = σ.length) (h0 : e.ad = [] := by rfl) : Lone (env.set i e) (σ.set i (some (.ref b))) a := ⟨fun j ej h1 h2 h3 => (by
  by_cases hj : i = j
  · subst hj
    by_cases hi : i < env.length
    · rw [List.getElem?_set_self (by rw [← l]; exact hi)] at h3
      cases h3
      exact n rfl
    · rw [List.getElem?_eq_none (by rw [List.length_set]; omega)] at h1
      cases h1
  · rw [List.getElem?_set_ne hj] at h1 h3
    exact h.1 j ej h1 h2 h3), fun j ej hj => by
  rcases get_set hj with ⟨_, rfl, _⟩ | ⟨_, hj2⟩
  · rw [h0]; exact fun z => by cases z
  · exact h.2 j ej hj2⟩
theorem Abs.hold (A : Abs F env σ L H) (k : KeepW F.W H H') (o : F.W.ok H') {a : Addr} {x : D} (n : H a = none) (h : NewV F L H' a x) (nt : x.isTp = false := by rfl) : Abs F env σ (a :: L) H' :=
  A.grow k o (pres_cons A k n) (fun b hb => List.mem_cons_of_mem _ hb) fun b hb => by
    rcases List.mem_cons.mp hb with hb | hb
    · exact .inr ⟨hb ▸ n, hb ▸ new_there nt h⟩
    · exact .inl hb
theorem NewV.step {a : Addr} (A : Abs F env σ (a :: L) H) (k : KeepW F.W H H') : ∀ {x : D}, NewV F L H a x → NewV F L H' a x := fun {x} h => by
  have w : ¬ F.W.own a := fun z => A.out List.mem_cons_self (A.wn a z)
  cases x with
  | lst ds => obtain ⟨vs, h1, h2⟩ := h; exact ⟨vs, k a _ w h1, A.kda k h2⟩
  | tup ds => obtain ⟨vs, h1, h2⟩ := h; exact ⟨vs, k a _ w h1, A.kda k h2⟩
  | dic ds => obtain ⟨vs, h1, h3, h2⟩ := h; exact ⟨vs, k a _ w h1, h3, A.kda k h2⟩
  | dct ds => obtain ⟨vs, h1, h3, h2⟩ := h; exact ⟨vs, k a _ w h1, h3, A.kda k h2⟩
  | tr G ds => obtain ⟨vs, h1, h2⟩ := h; exact ⟨vs, k a _ w h1, h2.pres fun x o q e => ⟨q, k.n A x o q e⟩⟩
  | _ => exact h
end
def sSet (i : Nat) (d : TDE) : TDS := fun P env => d env fun x => P.nx (env.set i (.fz x))
def sSetO (i : Nat) (d : TDE) : TDS := fun P env => d env fun x => ob (enOf x) fun e => P.nx (env.set i e)
def sDrop (d : TDE) : TDS := fun P env => d env fun _ => P.nx env
section
variable {X : Cx} {F : Fx} {e a b c : Expr} {es : List Expr} {d da db dc : TDE} {ds : TDA} {pos p : Pos} {i j l : Nat}
theorem l_setF {t : TE} (h : ∀ σ H Q, lC F d σ H Q → t σ H Q) : ∀ E σ H, lS F (sSet i d) E σ H → tAsg t (gName i) E σ H := fun E σ H ⟨env, L, P, A, pp, hn, _⟩ =>
  h σ H _ ⟨env, L, _, A, pp, fun x v H1 px k o dd => hn _ _ L H1 px ((A.step k o).setF dd i) (k.pres A)⟩
theorem l_setO {t : TE} (h : ∀ σ H Q, lN F d σ H Q → t σ H Q) : ∀ E σ H, lS F (sSetO i d) E σ H → tAsg t (gName i) E σ H := fun E σ H ⟨env, L, P, A, pp, hn, _⟩ =>
  h σ H _ ⟨env, L, _, A, pp, fun x v H1 px k o n dd => by
    obtain ⟨en, he, pn⟩ := ob_elim px
    exact hn _ _ _ H1 pn (A.setO k o n dd he i) (pres_cons A k n)⟩
theorem ds_set {x : Str} {pos' : Pos} (hN : X.N.Nodup) (hi : X.N[i]? = some x) (hx : Loc X.env.scope x) (he : PE X e (lC F d)) (hs : swapsWith e (some (.Name x pos')) pos.line X.env = pure false := by rfl) (hf : X.fn x = true ∨ X.env.scope.names.lookup x = some .local := by first | exact .inl rfl | exact .inr rfl | assumption) :
    PS X (.Assign [.Name x pos'] e pos) (lS F (sSet i d)) := PS.mono (ps_set hN hi hx he hs hf) (l_setF fun _ _ _ h => h)
theorem ds_setO {x : Str} {pos' : Pos} (hN : X.N.Nodup) (hi : X.N[i]? = some x) (hx : Loc X.env.scope x) (he : PE X e (lN F d)) (hs : swapsWith e (some (.Name x pos')) pos.line X.env = pure false := by rfl) (hf : X.fn x = true ∨ X.env.scope.names.lookup x = some .local := by first | exact .inl rfl | exact .inr rfl | assumption) :
    PS X (.Assign [.Name x pos'] e pos) (lS F (sSetO i d)) := PS.mono (ps_set hN hi hx he hs hf) (l_setO fun _ _ _ h => h)
abbrev TDG := D → De → (De → Prop) → Prop
abbrev TDGs := List D → De → (De → Prop) → Prop
def lG (F : Fx) (S : List Nat) (g : TDG) : TG := fun v σ H Q => ∃ env L x P, Abs F env σ L H ∧ Dd F.K (F.N L) F.W H v x ∧ g x env P ∧ ∀ env' σ', P env' → Abs F env' σ' L H → (∀ vs : List Nat, (∀ i ∈ S, i ∈ vs) → wipe σ' vs = wipe σ vs) → (∀ a, Lone env σ a → Lone env' σ' a) → Q σ' H
def lGs (F : Fx) (S : List Nat) (g : TDGs) : TGs := fun vs σ H Q => ∃ env L xs P, Abs F env σ L H ∧ DdAll F.K (F.N L) F.W H vs xs ∧ g xs env P ∧ ∀ env' σ', P env' → Abs F env' σ' L H → (∀ us : List Nat, (∀ i ∈ S, i ∈ us) → wipe σ' us = wipe σ us) → (∀ a, Lone env σ a → Lone env' σ' a) → Q σ' H
theorem wipe_set {σ : L2.St} {i : Nat} {v : Option V} : ∀ {vs : List Nat}, i ∈ vs → wipe (σ.set i v) vs = wipe σ vs
  | [], h => by cases h
  | w :: vs, h => by
    unfold wipe
    by_cases hw : i ∈ vs
    · rw [wipe_set hw]
    · have e : i = w := by
        rcases List.mem_cons.mp h with h | h
        · exact h
        · exact (hw h).elim
      subst e
      have comm : ∀ us : List Nat, i ∉ us → wipe (σ.set i v) us = (wipe σ us).set i v := by
        intro us
        induction us with
        | nil => intro _; rfl
        | cons u us ih =>
          intro hu
          unfold wipe
          rw [ih (fun z => hu (List.mem_cons_of_mem _ z)), List.set_comm]
          exact fun z => hu (by rw [z]; exact List.mem_cons_self)
      rw [comm vs hw, List.set_set]
theorem PG.mono {tg : Expr} {t t' : TG} (h : PG X tg t) (m : ∀ v σ H Q, t' v σ H Q → t v σ H Q) : PG X tg t' := ⟨fun pins s σ H v u Q I r q => h.run pins s σ H v u Q I r (m v σ H Q q)⟩
theorem PGs.mono {tg : List Expr} {t t' : TGs} (h : PGs X tg t) (m : ∀ v σ H Q, t' v σ H Q → t v σ H Q) : PGs X tg t' := ⟨fun pins s σ H v u Q I r q => h.run pins s σ H v u Q I r (m v σ H Q q)⟩
def gNm (i : Nat) : TDG := fun x env P => P (env.set i (.fz x))
theorem dg_name {x : Str} (hN : X.N.Nodup) (hi : X.N[i]? = some x) (hx : Loc X.env.scope x) (hf : X.fn x = true ∨ X.env.scope.names.lookup x = some .local := by first | exact .inl rfl | exact .inr rfl | assumption) : PG X (.Name x pos) (lG F [i] (gNm i)) :=
  PG.mono (pg_name hN hi hx hf) fun v σ H Q ⟨env, L, x, P, A, dd, g, q⟩ => q _ _ g (A.setF dd i) (fun vs h => wipe_set (h i List.mem_cons_self)) fun a h => h.setF i _ _ A.ls
def gsNil : TDGs := fun xs env P => xs = [] ∧ P env
def gsCons (g : TDG) (gs : TDGs) : TDGs := fun xs env P => match xs with | x :: r => g x env fun env' => gs r env' P | [] => False
theorem dgs_nil : PGs X [] (lGs F [] gsNil) := PGs.mono pgs_nil fun vs σ H Q ⟨env, L, xs, P, A, dd, g, q⟩ => by
  obtain ⟨rfl, g⟩ := g
  cases dd
  exact ⟨rfl, q env σ g A (fun _ _ => rfl) fun _ h => h⟩
theorem l_gcons {S S' : List Nat} {g : TDG} {gs : TDGs} : ∀ vs σ H Q, lGs F (S ++ S') (gsCons g gs) vs σ H Q → gCons (lG F S g) (lGs F S' gs) vs σ H Q := fun vs σ H Q ⟨env, L, xs, P, A, dd, gg, q⟩ => by
    cases dd with
    | nil => exact gg.elim
    | cons h t =>
      refine ⟨_, _, rfl, env, L, _, _, A, h, gg, fun env1 σ1 p1 A1 w1 n1 => ⟨env1, L, _, _, A1, t, p1, fun env2 σ2 p2 A2 w2 n2 => q env2 σ2 p2 A2 (fun us hu => ?_) fun a h => n2 a (n1 a h)⟩⟩
      rw [w2 us (fun i hi => hu i (List.mem_append_right _ hi)), w1 us (fun i hi => hu i (List.mem_append_left _ hi))]
def gTp (n : Nat) (gs : TDGs) : TDG := fun x env P => match x with | .tup xs => xs.length = n ∧ gs xs env P | _ => False
theorem l_gtup {S : List Nat} {n : Nat} {gs : TDGs} {K : PySem.W.Frag} (hK : F.K = K) : ∀ v σ H Q, lG F S (gTp n gs) v σ H Q → gTup K n (lGs F S gs) v σ H Q := fun v σ H Q ⟨env, L, x, P, A, dd, g, q⟩ => by
  cases x with
  | tup xs =>
    obtain ⟨a, vs, rfl, h1, _, h2⟩ := dd_tupE dd
    exact ⟨a, vs, rfl, SqT.of h1, h2.len.trans g.1, env, L, xs, P, A, h2, g.2, q⟩
  | _ => exact g.elim
def sAsg (d : TDE) (g : TDG) : TDS := fun P env => d env fun x => g x env P.nx
theorem l_asg {S : List Nat} {g : TDG} : ∀ E σ H, lS F (sAsg d g) E σ H → tAsg (lC F d) (lG F S g) E σ H := fun E σ H ⟨env, L, P, A, pp, hn, _⟩ =>
  ⟨env, L, _, A, pp, fun x v H1 px k o dd => ⟨env, L, x, _, A.step k o, dd, px, fun env' σ' p' A' _ _ => hn env' σ' L H1 p' A' (k.pres A)⟩⟩
def kn : Bool → D → Option En
  | true, x => enOf x
  | false, x => some (.fz x)
def sPar (i j : Nat) (ki kj : Bool) (da db : TDE) : TDS := fun P env => da env fun x => db env fun y => ob (kn ki x) fun ex => ob (kn kj y) fun ey => P.nx ((env.set i ex).set j ey)
theorem l_par : ∀ E σ H, lS F (sPar i j false false da db) E σ H → tPar i j (tCons (lC F da) (tCons (lC F db) tNil)) E σ H := fun E σ H ⟨env, L, P, A, pp, hn, _⟩ =>
  ⟨env, L, _, A, pp, fun x v H1 px k1 o1 d1 => ⟨env, L, _, A.step k1 o1, px, fun y u H2 py k2 o2 d2 => ⟨v, u, rfl, hn _ _ L H2 py ((((A.step k1 o1).step k2 o2).setF ((A.step k1 o1).kd k2 d1) i).setF d2 j) ((k1.trans k2).pres A)⟩⟩⟩
end
end DL
namespace DL
open PySem PySem.Spec PyProof.Rows L2 RK
section
variable {X : Cx} {F : Fx} {e a b c o : Expr} {es : List Expr} {d da db dc : TDE} {ds : TDA} {pos p apos cpos : Pos} {i j l : Nat}
def owAt (env : De) (i : Nat) : Option (List D) := env[i]?.bind fun e => match e with | .ow xs => some xs | _ => none
theorem owAt_en {env : De} {i : Nat} {xs : List D} (h : owAt env i = some xs) : env[i]? = some (.ow xs) := by
  obtain ⟨e, h1, h2⟩ := Option.bind_eq_some_iff.mp h
  cases e <;> cases h2
  exact h1
theorem ow_get {env : De} {σ : L2.St} {L : List Addr} {H : Hp} (A : Abs F env σ L H) {xs : List D} (h : owAt env i = some xs) : ∃ a vs, σ[i]? = some (some (.ref a)) ∧ a ∈ L ∧ H a = some (.lst vs) ∧ DdAll F.K (F.N L) F.W H vs xs := by
  obtain ⟨v, h1, h2⟩ := abs_at A (owAt_en h) (by intro z; cases z)
  cases v with
  | ref a => obtain ⟨q1, vs, q2, q3⟩ := h2; exact ⟨a, vs, h1, q1, q2, q3⟩
  | _ => exact h2.elim
theorem ow_put {env : De} {σ : L2.St} {L : List Addr} {H : Hp} (A : Abs F env σ L H) {xs ys : List D} (h : owAt env i = some xs) {a : Addr} (hs : σ[i]? = some (some (.ref a))) (ha : a ∈ L) {us : List V} (hu : DdAll F.K (F.N L) F.W H us ys) :
    Abs F (env.set i (.ow ys)) σ L (upd H a (.lst us)) ∧ Pres F L H L (upd H a (.lst us)) := by
  refine A.write (owAt_en h) rfl hs ha rfl ⟨ha, us, upd_same, hu.keep (fun x u q h => ?_) fun _ z => z⟩
  have ne : x ≠ a := fun z => q (.inr (by rw [z]; exact ha))
  rw [upd_ne ne]
  exact h
def sApp (i : Nat) (d : TDE) : TDS := fun P env => ob (owAt env i) fun xs => d env fun x => xs.length < sizeLine ∧ P.nx (env.set i (.ow (xs ++ [x])))
theorem l_app {K : PySem.W.Frag} : ∀ E σ H, lS F (sApp i d) E σ H → tDrop (tBM K "list" rAppend (tVar i) (tCons (lC F d) tNil)) E σ H := fun E σ H ⟨env, L, P, A, pp, hn, _⟩ => by
  obtain ⟨xs, h, pp⟩ := ob_elim pp
  obtain ⟨a, vs, hs, ha, hv, hd⟩ := ow_get A h
  refine ⟨_, hs, .inl ⟨rfl, vs, SqL.of hv⟩, env, L, _, A, pp, fun x v H1 px k1 o1 d1 => ?_⟩
  have A1 := A.step k1 o1
  obtain ⟨a2, vs2, hs2, ha2, hv2, hd2⟩ := ow_get A1 h
  rw [hs] at hs2
  cases hs2
  obtain ⟨B, pr⟩ := ow_put A1 h hs ha2 (hd2.app (.cons d1 .nil))
  exact ⟨a, vs2, v, rfl, rfl, hv2, by rw [hd2.len]; exact px.1, hn _ _ _ _ px.2 B ((k1.pres A).trans pr)⟩
theorem ds_app (ho : PE X o (tVar i)) (he : PE X e (lC F d)) (hbase : attributeBase o "append" X.env (eval o X.env) = eval o X.env := by rfl)
    (hfew : ((backTo cpos (starEach [e] X.env)).all (fun x => !x.1) && (backToKw cpos (keywordEach [] X.env)).all (fun x => x.1.isSome) && decide (([e] : List Expr).length + ([] : List Keyword).length + (if ([] : List Keyword).isEmpty then 0 else 1) < 30)) = true := by rfl)
    (hline : (apos.endLine == cpos.line) = true := by rfl) (hs : starEach [e] X.env = (false, eval e X.env) :: starEach [] X.env := by rfl) (hplain : (backTo cpos (starEach [] X.env)).any (·.1) = false := by rfl)
    (hsw : swapsWith (.Call (.Attribute o "append" apos) [e] [] cpos) none pos.line X.env = pure false := by rfl) :
    PS X (.Expr (.Call (.Attribute o "append" apos) [e] [] cpos) pos) (lS F (sApp i d)) := PS.mono (ps_expr (pe_bm PySem.F.plainAttrs_list PySem.F.slot_list_append PySem.F.type_list_append mt_append ho (pa_cons he pa_nil hs) hbase hfew hline hs hplain) hsw) l_app
def sIns (i : Nat) (da db : TDE) : TDS := fun P env => ob (owAt env i) fun xs => da env fun y => db env fun x => match y with
  | .int n => xs.length < sizeLine ∧ 0 ≤ n ∧ n < 2 ^ 63 ∧ P.nx (env.set i (.ow (xs.take n.toNat ++ [x] ++ xs.drop n.toNat)))
  | _ => False
theorem ds_ins (ho : PE X o (tVar i)) (ha : PE X a (lC F da)) (hb : PE X b (lC F db)) (hbase : attributeBase o "insert" X.env (eval o X.env) = eval o X.env := by rfl)
    (hfew : ((backTo cpos (starEach [a, b] X.env)).all (fun x => !x.1) && (backToKw cpos (keywordEach [] X.env)).all (fun x => x.1.isSome) && decide (([a, b] : List Expr).length + ([] : List Keyword).length + (if ([] : List Keyword).isEmpty then 0 else 1) < 30)) = true := by rfl)
    (hline : (apos.endLine == cpos.line) = true := by rfl) (hs : starEach [a, b] X.env = (false, eval a X.env) :: starEach [b] X.env := by rfl) (hs2 : starEach [b] X.env = (false, eval b X.env) :: starEach [] X.env := by rfl) (hplain : (backTo cpos (starEach [b] X.env)).any (·.1) = false := by rfl)
    (hsw : swapsWith (.Call (.Attribute o "insert" apos) [a, b] [] cpos) none pos.line X.env = pure false := by rfl) :
    PS X (.Expr (.Call (.Attribute o "insert" apos) [a, b] [] cpos) pos) (lS F (sIns i da db)) := PS.mono (ps_expr (pe_bm PySem.F.plainAttrs_list PySem.F.slot_list_insert PySem.F.type_list_insert mt_insert ho (pa_cons ha (pa_cons hb pa_nil hs2) hs) hbase hfew hline hs hplain) hsw) fun E σ H ⟨env, L, P, A, pp, hn, _⟩ => by
  obtain ⟨xs, h, pp⟩ := ob_elim pp
  obtain ⟨t, vs, hs, ha, hv, hd⟩ := ow_get A h
  refine ⟨_, hs, .inl ⟨rfl, vs, SqL.of hv⟩, env, L, _, A, pp, fun y w H1 px k1 o1 d1 => ⟨env, L, _, A.step k1 o1, px, fun x v H2 px k2 o2 d2 => ?_⟩⟩
  cases y with
  | int n =>
    cases d1
    have A2 := (A.step k1 o1).step k2 o2
    obtain ⟨a2, vs2, hs2, ha2, hv2, hd2⟩ := ow_get A2 h
    rw [hs] at hs2
    cases hs2
    obtain ⟨B, pr⟩ := ow_put A2 h hs ha2 (((hd2.take n.toNat).app (.cons d2 .nil)).app (hd2.drop n.toNat))
    exact ⟨t, vs2, n, v, rfl, rfl, hv2, by rw [hd2.len]; exact px.1, px.2.1, px.2.2.1, hn _ _ _ _ px.2.2.2 B (((k1.trans k2).pres A).trans pr)⟩
  | _ => exact px.elim
def sExt (i : Nat) (d : TDE) : TDS := fun P env => ob (owAt env i) fun xs => d env fun x => match x with | .lst ys => xs.length + ys.length ≤ sizeLine ∧ P.nx (env.set i (.ow (xs ++ ys))) | _ => False
def sClr (i : Nat) : TDS := fun P env => ob (owAt env i) fun _ => P.nx (env.set i (.ow []))
def sRev (i : Nat) : TDS := fun P env => ob (owAt env i) fun xs => P.nx (env.set i (.ow xs.reverse))
def sPut (i : Nat) (de dk : TDE) : TDS := fun P env => de env fun x => ob (owAt env i) fun xs => dk env fun k => match k with | .int n => ob (ixN xs.length n) fun m => P.nx (env.set i (.ow (xs.set m x))) | _ => False
def odAt (env : De) (i : Nat) : Option En := env[i]?.bind fun e => match e with | .od k => some (.od k) | .ot k => some (.ot k) | _ => none
def odPut (e : En) (k v : D) : Option En := match e with
  | .od kds => (keyD k).bind fun k => if kds.length < sizeLine then some (.od (putD kds k v)) else none
  | .ot kds => match k with | .tup ks => (keysD ks).bind fun k => if kds.length < sizeLine then some (.ot (putD kds k v)) else none | _ => none
  | _ => none
def sDput (i : Nat) (dv dk : TDE) : TDS := fun P env => dv env fun v => ob (odAt env i) fun e0 => dk env fun k => ob (odPut e0 k v) fun e => P.nx (env.set i e)
theorem odAt_en {env : De} {i : Nat} {e : En} (h : odAt env i = some e) : env[i]? = some e ∧ e.isOw = true := by
  obtain ⟨e', h1, h2⟩ := Option.bind_eq_some_iff.mp h
  cases e' <;> cases h2
  · exact ⟨h1, rfl⟩
  · exact ⟨h1, rfl⟩
theorem kd_len {κ : Type} {kvs : List (κ × V)} {kds : List (κ × D)} (h : kvs.map (·.1) = kds.map (·.1)) : kvs.length = kds.length := by simpa using congrArg List.length h
theorem l_dput : ∀ E σ H, lS F (sDput i da db) E σ H → sDPut (tVar i) (lC F db) (lC F da) E σ H := fun E σ H ⟨env, L, P, A, pp, hn, _⟩ =>
  ⟨env, L, _, A, pp, fun x v H1 px k1 o1 d1 => by
    have A1 := A.step k1 o1
    obtain ⟨e0, h0, pp⟩ := ob_elim px
    obtain ⟨g1, g2⟩ := odAt_en h0
    obtain ⟨w, hs, en⟩ := abs_at A1 g1 (by rintro rfl; cases g2)
    refine ⟨w, hs, env, L, _, A1, pp, fun y u H2 py k2 o2 d2 => ?_⟩
    obtain ⟨e1, h1, pn⟩ := ob_elim py
    have A2 := A1.step k2 o2
    have en2 := A2.en i e0 _ g1 hs
    cases e0 with
    | od kds =>
      cases w with
      | ref t =>
        obtain ⟨ha, kvs, h2, h3, h4⟩ := en2
        obtain ⟨k, h5, h6⟩ := Option.bind_eq_some_iff.mp h1
        obtain ⟨hl, rfl⟩ := guard_elim h6
        have hu := keyD_v (F := F) (L := L) (.inl d2) h5
        obtain ⟨r1, r2⟩ := put_rel (k := k) h3 h4 (A1.kd k2 d1)
        obtain ⟨B, pr⟩ := A2.write (o' := .dK (putK kvs k v)) (e' := .od (putD kds k x)) g1 g2 hs ha rfl ⟨ha, _, upd_same, r1, r2.keep (fun z u q h => by
          have ne : z ≠ t := fun zz => q (.inr (by rw [zz]; exact ha))
          rw [upd_ne ne]
          exact h) fun _ z => z⟩
        exact ⟨t, _, rfl, .inl ⟨kvs, k, h2, hu, by rw [kd_len h3]; exact hl, rfl⟩, hn _ _ _ _ pn B (((k1.trans k2).pres A).trans pr)⟩
      | _ => exact en2.elim
    | ot kds =>
      cases w with
      | ref t =>
        obtain ⟨ha, kvs, h2, h3, h4⟩ := en2
        cases y with
        | tup ks =>
          obtain ⟨k, h5, h6⟩ := Option.bind_eq_some_iff.mp h1
          obtain ⟨hl, rfl⟩ := guard_elim h6
          obtain ⟨q, vs, rfl, g3, _, g4⟩ := dd_tupE d2
          have hu := keysD_v g4 h5
          subst hu
          obtain ⟨r1, r2⟩ := put_rel (k := k) h3 h4 (A1.kd k2 d1)
          obtain ⟨B, pr⟩ := A2.write (o' := .dT (putK kvs k v)) (e' := .ot (putD kds k x)) g1 g2 hs ha rfl ⟨ha, _, upd_same, r1, r2.keep (fun z u q h => by
            have ne : z ≠ t := fun zz => q (.inr (by rw [zz]; exact ha))
            rw [upd_ne ne]
            exact h) fun _ z => z⟩
          exact ⟨t, _, rfl, .inr ⟨kvs, k, q, h2, rfl, g3, by rw [kd_len h3]; exact hl, rfl⟩, hn _ _ _ _ pn B (((k1.trans k2).pres A).trans pr)⟩
        | _ => cases h1
      | _ => exact en2.elim
    | ow _ => cases h1
    | otr _ _ => cases h1
    | no => cases g2
    | fz _ => cases g2
    | oo _ _ _ => cases g2
    | fe _ => cases g2⟩
def frz (e : En) : Option En := (owD e).map En.fz
def sFrz (i : Nat) (s : TDS) : TDS := fun P env => ob (env[i]?.bind frz) fun e => s P (env.set i e)
end
end DL
namespace DL
open PySem PySem.Spec PyProof.Rows L2 RK
structure Stn (H H' : Hp) : Prop where
  f : ∀ a o, H a = some o → H' a = some o
  n : NoT H H'
theorem Stn.refl (H : Hp) : Stn H H := ⟨fun _ _ z => z, fun _ _ z => ⟨_, z⟩⟩
theorem Stn.new {H : Hp} {p : Addr} {o : HO} (h : H p = none) (n : Ntb o) : Stn H (upd H p o) := ⟨fun a u q => by rw [upd_ne (ne_of_none q h)]; exact q, noT_upd n⟩
instance {H H' : Hp} : CoeFun (Stn H H') fun _ => ∀ a o, H a = some o → H' a = some o := ⟨Stn.f⟩
def ItOk (F : Fx) (Rel : (Addr → Prop) → Hp → Prop) (J : It) (xs : List D) : Prop := ∀ N' H', Rel N' H' → (∀ a, N' a → ∃ o, H' a = some o) → ∀ i : Nat, (xs.length = i → J.stop i H') ∧
  ∀ x, xs[i]? = some x → J.go i H' ∧ ∀ v H2, J.yld i H' v H2 → Stn H' H2 ∧ Dd F.K N' F.W H2 v x
def relP (F : Fx) (L : List Addr) (H : Hp) : (Addr → Prop) → Hp → Prop := fun N' H' => ∀ a o, ¬ F.N L a → H a = some o → ¬ N' a ∧ H' a = some o
def relK (F : Fx) (L : List Addr) (H : Hp) : (Addr → Prop) → Hp → Prop := fun N' H' => ∀ a o, ¬ F.W.own a → H a = some o → (¬ F.N L a → ¬ N' a) ∧ H' a = some o
abbrev TDI := De → (List D → Prop) → Prop
def lI (F : Fx) (d : TDI) : TI := fun σ H R => ∃ env L P, Abs F env σ L H ∧ d env P ∧ ∀ xs J H', P xs → KeepW F.W H H' → F.W.ok H' → ItOk F (relP F L H') J xs → R J H'
def lIb (F : Fx) (d : TDI) : TI := fun σ H R => ∃ env L P, Abs F env σ L H ∧ d env P ∧ ∀ xs J H', P xs → KeepW F.W H H' → F.W.ok H' → ItOk F (relK F L H') J xs → R J H'
section
variable {X : Cx} {F : Fx} {e a b c tg iter : Expr} {es : List Expr} {d da db dc : TDE} {ds : TDA} {pos p : Pos} {i j l : Nat}
theorem it_list {Rel : (Addr → Prop) → Hp → Prop} {t : Addr} {vs : List V} {xs : List D} (h : ∀ N' H', Rel N' H' → H' t = some (.lst vs) ∧ DdAll F.K N' F.W H' vs xs) : ItOk F Rel (Itl F.K t) xs := fun N' H' r _ i => by
  obtain ⟨h1, h2⟩ := h N' H' r
  refine ⟨fun hi => ⟨vs, SqL.of h1, by rw [h2.len]; exact Nat.le_of_eq hi⟩, fun x hx => ?_⟩
  obtain ⟨v, hv, dv⟩ := h2.get hx
  refine ⟨⟨vs, v, SqL.of h1, hv⟩, fun w H2 hy => ?_⟩
  obtain ⟨rfl, hy⟩ := hy
  have := hy vs (SqL.of h1)
  rw [hv] at this
  cases this
  exact ⟨.refl _, dv⟩
theorem it_tup {Rel : (Addr → Prop) → Hp → Prop} {t : Addr} {vs : List V} {xs : List D} (h : ∀ N' H', Rel N' H' → SqT F.K H' t vs ∧ DdAll F.K N' F.W H' vs xs) : ItOk F Rel (Itt F.K t) xs := fun N' H' r _ i => by
  obtain ⟨h1, h2⟩ := h N' H' r
  refine ⟨fun hi => ⟨vs, h1, by rw [h2.len]; exact Nat.le_of_eq hi⟩, fun x hx => ?_⟩
  obtain ⟨v, hv, dv⟩ := h2.get hx
  refine ⟨⟨vs, v, h1, hv⟩, fun w H2 hy => ?_⟩
  obtain ⟨rfl, hy⟩ := hy
  have := hy vs h1
  rw [hv] at this
  cases this
  exact ⟨.refl _, dv⟩
def rngD (lo : Int) (n : Nat) : List D := (List.range n).map fun k => .int (lo + (k : Nat))
theorem it_rng {Rel : (Addr → Prop) → Hp → Prop} {lo : Int} {n : Nat} : ItOk F Rel (Itr lo n) (rngD lo n) := fun N' H' r _ i => by
  refine ⟨fun hi => (show n ≤ i by have := Nat.le_of_eq hi; simpa [rngD] using this), fun x hx => ?_⟩
  have hi : i < n := by
    have := (List.getElem?_eq_some_iff.mp hx).1
    simpa [rngD] using this
  have e : x = .int (lo + (i : Nat)) := by
    unfold rngD at hx
    rw [List.getElem?_map, List.getElem?_range hi] at hx
    exact (Option.some.inj hx).symm
  subst e
  refine ⟨hi, fun w H2 hy => ?_⟩
  obtain ⟨rfl, rfl⟩ := hy
  exact ⟨.refl _, .int _⟩
theorem PI.mono {w w' : TI} (h : PI X tg iter w) (m : ∀ σ H R, w' σ H R → w σ H R) : PI X tg iter w' := ⟨fun pins s σ H R I q => h.run pins s σ H R I (m σ H R q)⟩
theorem PI.or {w w' : TI} (h : PI X tg iter w) (h' : PI X tg iter w') : PI X tg iter (fun σ H R => w σ H R ∨ w' σ H R) := ⟨fun pins s σ H R I q => by
  rcases q with q | q
  · exact h.run pins s σ H R I q
  · exact h'.run pins s σ H R I q⟩
def lstD : D → Option (List D)
  | .lst xs => some xs
  | _ => none
def tupD : D → Option (List D)
  | .tup xs => some xs
  | .ktp xs => some xs
  | _ => none
def sgnD : D → Option (List D)
  | .str z => some (z.cps.toList.map fun c => .str ⟨#[c]⟩)
  | _ => none
def iSeq (d : TDE) : TDI := fun env P => (d env fun x => ob (lstD x) P) ∨ ((d env fun x => ob (tupD x) P) ∨ (d env fun x => ob (sgnD x) P))
theorem it_str {Rel : (Addr → Prop) → Hp → Prop} {z : Str} : ItOk F Rel (Its z) (z.cps.toList.map fun c => .str ⟨#[c]⟩) := fun N' H' r _ i => by
  refine ⟨fun hi => (show z.cps.size ≤ i by have := Nat.le_of_eq hi; simpa using this), fun x hx => ?_⟩
  rw [List.getElem?_map] at hx
  obtain ⟨c, hc, rfl⟩ := Option.map_eq_some_iff.mp hx
  have hi : i < z.cps.size := by simpa using (List.getElem?_eq_some_iff.mp hc).1
  have hc2 : z.cps[i]? = some c := by rw [← Array.getElem?_toList]; exact hc
  refine ⟨hi, fun w H2 hy => ?_⟩
  obtain ⟨rfl, c', h1, rfl⟩ := hy
  rw [hc2] at h1
  cases h1
  exact ⟨.refl _, .str _⟩
theorem lstD_e {x : D} {xs : List D} (h : lstD x = some xs) : x = .lst xs := by cases x <;> cases h; rfl
theorem seqT_keep {N N' : Addr → Prop} {H H' : Hp} {v : V} {x : D} {xs : List D} (e : tupD x = some xs) (h : Dd F.K N F.W H v x) : ∃ t vs, v = .ref t ∧ SqT F.K H t vs ∧ ∀ N' H', (∀ a o, ¬ N a → H a = some o → ¬ N' a ∧ H' a = some o) → SqT F.K H' t vs ∧ DdAll F.K N' F.W H' vs xs := by
  cases x <;> cases e
  · obtain ⟨t, vs, rfl, h1, h2, h3⟩ := dd_tupE h
    exact ⟨t, vs, rfl, SqT.of h1, fun N' H' r => ⟨SqT.of (r t _ h2 h1).2, h3.pres r⟩⟩
  · cases h with | ktp h1 h2 h3 h4 h5 h6 => exact ⟨_, _, rfl, .inr ⟨_, _, _, h1, h2, h3, h4, h5⟩, fun N' H' r => ⟨.inr ⟨_, _, _, h1, h2, h3, h4, h5⟩, h6.pres r⟩⟩
theorem di_seq (he : PE X e (lC F d)) (hK : F.K = X.K := by rfl) : PI X tg e (lI F (iSeq d)) := PI.mono (PI.or (pi_list he) (PI.or (pi_tup he) (pi_str he))) fun σ H R ⟨env, L, P, A, pp, q⟩ => by
  rw [← hK]
  rcases pp with pp | pp | pp
  · refine .inl ⟨env, L, _, A, pp, fun x v H1 px k1 o1 d1 => ?_⟩
    obtain ⟨xs, e, px⟩ := ob_elim px
    have := lstD_e e
    subst this
    obtain ⟨t, vs, rfl, h1, h2, h3⟩ := dd_lstE d1
    exact ⟨t, rfl, ⟨vs, SqL.of h1⟩, q xs _ H1 px k1 o1 (it_list fun N' H' r => ⟨(r t _ h2 h1).2, h3.pres r⟩)⟩
  · refine .inr (.inl ⟨env, L, _, A, pp, fun x v H1 px k1 o1 d1 => ?_⟩)
    obtain ⟨xs, e, px⟩ := ob_elim px
    obtain ⟨t, vs, rfl, h1, h2⟩ := seqT_keep (N' := fun _ => False) (H' := H1) e d1
    exact ⟨t, rfl, ⟨vs, h1⟩, q xs _ H1 px k1 o1 (it_tup fun N' H' r => h2 N' H' r)⟩
  · refine .inr (.inr ⟨env, L, _, A, pp, fun x v H1 px k1 o1 d1 => ?_⟩)
    obtain ⟨xs, e, px⟩ := ob_elim px
    cases x <;> cases e
    have := dd_strE d1
    subst this
    exact ⟨_, rfl, q _ _ H1 px k1 o1 it_str⟩
theorem relK_p {L : List Addr} {H : Hp} {N' : Addr → Prop} {H' : Hp} {env : De} {σ : L2.St} (A : Abs F env σ L H) (r : relK F L H N' H') : ∀ a o, ¬ F.N L a → H a = some o → ¬ N' a ∧ H' a = some o := fun a o n h => ⟨(r a o (nw_of A n) h).1 n, (r a o (nw_of A n) h).2⟩
theorem bw_lstO {env : De} {σ : L2.St} {L : List Addr} {H : Hp} (A : Abs F env σ L H) {v : V} {xs : List D} (h : Bw F L H v (.lst xs)) : ∃ t vs, v = .ref t ∧ H t = some (.lst vs) ∧ ¬ F.W.own t ∧ DdAll F.K (F.N L) F.W H vs xs := by
  rcases h with h | ⟨e, h1, h2, h3⟩
  · obtain ⟨t, vs, rfl, h1, h2, h3⟩ := dd_lstE h
    exact ⟨t, vs, rfl, h1, nw_of A h2, h3⟩
  · cases e with
    | ow es =>
      cases h3
      cases v with
      | ref a =>
        obtain ⟨g1, vs, g2, g3⟩ := h2
        exact ⟨a, vs, rfl, g2, fun z => A.out g1 (A.wn a z), g3⟩
      | _ => exact h2.elim
    | no => cases h1
    | fz _ => cases h1
    | oo _ _ _ => cases h1
    | fe _ => cases h1
    | od _ => cases h3
    | ot _ => cases h3
    | otr _ _ => cases h3
theorem bw_tupC {L : List Addr} {H : Hp} {v : V} {x : D} {xs : List D} (e : tupD x = some xs) (h : Bw F L H v x) : Dd F.K (F.N L) F.W H v x := by
  rcases h with h | ⟨en, h1, h2, h3⟩
  · exact h
  · cases en with
    | no => cases h1
    | fz _ => cases h1
    | oo _ _ _ => cases h1
    | fe _ => cases h1
    | ow _ => subst h3; cases e
    | od _ => subst h3; cases e
    | ot _ => subst h3; cases e
    | otr _ _ => subst h3; cases e
theorem db_seq (he : PE X e (lB F d)) (hK : F.K = X.K := by rfl) : PI X tg e (lIb F (iSeq d)) := PI.mono (PI.or (pi_list he) (PI.or (pi_tup he) (pi_str he))) fun σ H R ⟨env, L, P, A, pp, q⟩ => by
  rw [← hK]
  rcases pp with pp | pp | pp
  · refine .inl ⟨env, L, _, A, pp, fun x v H1 px k1 o1 d1 => ?_⟩
    obtain ⟨xs, e, px⟩ := ob_elim px
    have := lstD_e e
    subst this
    obtain ⟨t, vs, rfl, h1, h2, h3⟩ := bw_lstO (A.step k1 o1) d1
    exact ⟨t, rfl, ⟨vs, SqL.of h1⟩, q xs _ H1 px k1 o1 (it_list fun N' H' r => ⟨(r t _ h2 h1).2, h3.pres (relK_p (A.step k1 o1) r)⟩)⟩
  · refine .inr (.inl ⟨env, L, _, A, pp, fun x v H1 px k1 o1 d1 => ?_⟩)
    obtain ⟨xs, e, px⟩ := ob_elim px
    obtain ⟨t, vs, rfl, h1, h2⟩ := seqT_keep (N' := fun _ => False) (H' := H1) e (bw_tupC e d1)
    exact ⟨t, rfl, ⟨vs, h1⟩, q xs _ H1 px k1 o1 (it_tup fun N' H' r => h2 N' H' (relK_p (A.step k1 o1) r))⟩
  · refine .inr (.inr ⟨env, L, _, A, pp, fun x v H1 px k1 o1 d1 => ?_⟩)
    obtain ⟨xs, e, px⟩ := ob_elim px
    cases x <;> cases e
    have := bw_str d1
    subst this
    exact ⟨_, rfl, q _ _ H1 px k1 o1 it_str⟩
def iRng (ds : TDA) : TDI := fun env P => ds env fun xs => match xs with
  | [.int n] => -(2 ^ 62) ≤ n ∧ n < 2 ^ 62 ∧ P (rngD 0 n.toNat)
  | _ => False
def iRngB (ds : TDA) : TDI := fun env P => ds env fun xs => match xs with
  | [.int m, .int n] => (-(2 ^ 62) ≤ m ∧ m < 2 ^ 62 ∧ -(2 ^ 62) ≤ n ∧ n < 2 ^ 62) ∧ P (rngD m (n - m).toNat)
  | _ => False
theorem ints1 {K : PySem.W.Frag} {N : Addr → Prop} {W : Wd} {H : Hp} {vs : List V} {n : Int} (h : DdAll K N W H vs [.int n]) : vs = [.int n] := by
  cases h with | cons h t => cases t; rw [dd_intE h]
theorem l_rng {q : TI → Prop} : ∀ σ H R, (lI F (iRng ds) σ H R ∨ lIb F (iRng ds) σ H R) → iRng1 (lA F ds) σ H R := fun σ H R h => by
  have key : ∀ (Rel : List Addr → Hp → (Addr → Prop) → Hp → Prop), (∃ env L P, Abs F env σ L H ∧ iRng ds env P ∧ ∀ xs J H', P xs → KeepW F.W H H' → F.W.ok H' → ItOk F (Rel L H') J xs → R J H') → iRng1 (lA F ds) σ H R := fun Rel ⟨env, L, P, A, pp, q⟩ =>
    ⟨env, L, _, A, pp, fun xs vs H1 px k1 o1 d1 => by
      match xs, px, d1 with
      | [.int n], px, d1 => exact ⟨n, ints1 d1, px.1, px.2.1, q _ _ H1 px.2.2 k1 o1 it_rng⟩⟩
  rcases h with h | h
  · exact key (relP F) h
  · exact key (relK F) h
theorem di_rng (hg : Gl X "range") (hm : X.mg "range" = none) (ha : PA X [a] (lA F ds)) (hs : starEach [a] X.env = [(false, eval a X.env)] := by rfl) : PI X tg (.Call (.Name "range" p) [a] [] pos) (lI F (iRng ds)) := PI.mono (pi_range1 hg hm ha hs) fun σ H R h => l_rng (q := fun _ => True) σ H R (.inl h)
theorem db_rng (hg : Gl X "range") (hm : X.mg "range" = none) (ha : PA X [a] (lA F ds)) (hs : starEach [a] X.env = [(false, eval a X.env)] := by rfl) : PI X tg (.Call (.Name "range" p) [a] [] pos) (lIb F (iRng ds)) := PI.mono (pi_range1 hg hm ha hs) fun σ H R h => l_rng (q := fun _ => True) σ H R (.inr h)
def sLoop (g : TDG) (body : TDS) (P : DEnds) : List D → De → Prop
  | [], env => P.nx env
  | x :: xs, env => g x env fun env' => body { nx := sLoop g body P xs, rt := P.rt, bk := P.nx, ct := sLoop g body P xs } env'
def sFor (it : TDI) (g : TDG) (body : TDS) : TDS := fun P env => it env fun xs => sLoop g body P xs env
theorem same_keep {W : Wd} {H H' : Hp} (h : Stn H H') : KeepW W H H' := fun a o _ q => h a o q
theorem same_ok {W : Wd} {H H' : Hp} (k : W.ok H) (h : Stn H H') : W.ok H' := Wd.st k (fun a o q _ => h a o q) h.n
theorem l_for {S : List Nat} {it : TDI} {g : TDG} {body : TDS} : ∀ E σ H, lS F (sFor it g body) E σ H → tFor (lI F it) (lG F S g) (lS F body) E σ H := fun E σ H ⟨env, L, P, A, pp, hn, hr, hb, hc⟩ =>
  ⟨env, L, _, A, pp, fun xs J H1 px k1 o1 ok => by
    have pr0 : Pres F L H L H1 := k1.pres A
    refine ⟨fun i m σ' H' => ∃ env' L', Abs F env' σ' L' H' ∧ Pres F L H1 L' H' ∧ sLoop g body P (xs.drop i) env' ∧ i ≤ xs.length ∧ m = xs.length - i, ⟨_, env, L, A.step k1 o1, .refl _ _ _, px, Nat.zero_le _, rfl⟩, ?_⟩
    rintro i m σ' H' ⟨env', L', A', pr, lp, hi, rfl⟩
    obtain ⟨st, go⟩ := ok (F.N L') H' (fun a o n h => pr a o n h) (fun a h => A'.alO h) i
    by_cases hlt : i < xs.length
    · obtain ⟨g1, g2⟩ := go xs[i] (List.getElem?_eq_getElem hlt)
      refine .inr ⟨g1, fun σ2 H2 => ∃ env2 L2, Abs F env2 σ2 L2 H2 ∧ Pres F L H1 L2 H2 ∧ sLoop g body P (xs.drop (i + 1)) env2, fun σ2 H2 ⟨env2, L2, a1, a2, a3⟩ => ⟨xs.length - (i + 1), by omega, env2, L2, a1, a2, a3, hlt, rfl⟩, fun v H2 hy => ?_⟩
      obtain ⟨sm, dd⟩ := g2 v H2 hy
      rw [List.drop_eq_getElem_cons hlt] at lp
      have A2 := A'.step (same_keep sm) (same_ok A'.ok sm)
      have pr2 : Pres F L H1 L' H2 := pr.trans fun a o n h => ⟨n, sm a o h⟩
      exact ⟨env', L', _, _, A2, dd, lp, fun env3 σ3 p3 A3 _ _ => ⟨env3, L', _, A3, p3, fun env4 σ4 L4 H4 p4 A4 pr4 => ⟨env4, L4, A4, pr2.trans pr4, p4⟩, hr, fun env4 σ4 L4 H4 p4 A4 pr4 => hn env4 σ4 L4 H4 p4 A4 ((pr0.trans pr2).trans pr4), fun env4 σ4 L4 H4 p4 A4 pr4 => ⟨env4, L4, A4, pr2.trans pr4, p4⟩⟩⟩
    · have e : xs.drop i = [] := List.drop_eq_nil_of_le (by omega)
      rw [e] at lp
      exact .inl ⟨st (by omega), hn env' σ' L' H' lp A' (pr0.trans pr)⟩⟩
theorem ds_for {S : List Nat} {it : TDI} {g : TDG} {sts : List Stmt} {body : TDS} (hp : PassesOwn (model X.prog X.w) X.A X.env X.xe) (hc : X.calm = true) (hi : PI X tg iter (lI F it)) (hg : PG X tg (lG F S g)) (hb : PSs X sts (lS F body)) (hs : ∀ x, foldedSetIterable iter X.env x = pure x := by intro _; rfl) :
    PS X (.For tg iter sts [] pos) (lS F (sFor it g body)) := PS.mono (ps_for hp hc hi hg hb hs) l_for
end
end DL
namespace DL
open PySem PySem.Spec PyProof.Rows L2 RK
def wipeE (env : De) : List Nat → De
  | [] => env
  | v :: vs => (wipeE env vs).set v .no
section
variable {F : Fx} {env : De} {σ : L2.St} {L : List Addr} {H H' : Hp}
theorem Abs.setN (A : Abs F env σ L H) (i : Nat) : Abs F (env.set i .no) (σ.set i none) L H := by
  refine ⟨A.ok, A.al, A.wn, A.kp, A.fr, by rw [List.length_set, List.length_set, A.ls], fun j l a ej el h1 h2 o1 o2 s1 s2 => ?_, A.so.set0 rfl rfl _, fun j e y h1 h2 => ?_⟩
  · by_cases hj : i = j
    · subst hj
      by_cases hi : i < env.length
      · rw [List.getElem?_set_self hi] at h1
        cases h1
        cases o1
      · rw [List.getElem?_eq_none (by rw [List.length_set]; omega)] at h1
        cases h1
    · by_cases hl : i = l
      · subst hl
        by_cases hi : i < env.length
        · rw [List.getElem?_set_self hi] at h2
          cases h2
          cases o2
        · rw [List.getElem?_eq_none (by rw [List.length_set]; omega)] at h2
          cases h2
      · rw [List.getElem?_set_ne hj] at h1 s1
        rw [List.getElem?_set_ne hl] at h2 s2
        exact A.sep j l a ej el h1 h2 o1 o2 s1 s2
  · by_cases hj : i = j
    · subst hj
      by_cases hi : i < env.length
      · rw [List.getElem?_set_self hi] at h1
        cases h1
        trivial
      · rw [List.getElem?_eq_none (by rw [List.length_set]; omega)] at h1
        cases h1
    · rw [List.getElem?_set_ne hj] at h1 h2
      exact A.en j e y h1 h2
theorem Abs.wipe (A : Abs F env σ L H) : ∀ vs : List Nat, Abs F (wipeE env vs) (L2.wipe σ vs) L H
  | [] => A
  | v :: vs => (A.wipe vs).setN v
theorem Abs.poke (A : Abs F env σ L H) {a : Addr} {o' : HO} (ha : a ∈ L) (lo : Lone env σ a) (po : Plo o' := by exact True.intro) : Abs F env σ L (upd H a o') := by
  have na : ¬ F.N0 a := A.out ha
  have nw : ¬ F.W.own a := fun z => na (A.wn a z)
  refine ⟨?_, A.al, A.wn, fun x u q h => ?_, fun b hb => ?_, A.ls, A.sep, A.so, fun j e2 y h1 h2 => ?_⟩
  · exact Wd.st A.ok (n := noT_upd po.ntb) fun b u h q => by
      have ne : b ≠ a := fun z => by
        rcases q with q | q
        · exact nw (by rw [← z]; exact q)
        · obtain ⟨_, o, e, pl⟩ := A.fr a ha
          rw [z, e] at h
          exact q (Option.some.inj h ▸ pl)
      rw [upd_ne ne]
      exact h
  · have hx := A.kp x u q h
    have ne : x ≠ a := fun z => by
      rw [z, (A.fr a ha).1] at h
      cases h
    rw [upd_ne ne]
    exact hx
  · refine ⟨(A.fr b hb).1, ?_⟩
    by_cases e : b = a
    · subst e
      exact ⟨_, upd_same, po⟩
    · rw [upd_ne e]
      exact (A.fr b hb).2
  · refine EnOk.keep A (fun x u q h => ?_) (fun _ z => z) (fun b hb ob hbL => ⟨hbL, fun u hu => ?_⟩) (fun b hb hbL => ⟨hbL, fun u hu => by
      have : b ≠ a := fun z => lo.2 j e2 h1 (z ▸ hb)
      rw [upd_ne this]
      exact hu⟩) (A.en j e2 y h1 h2)
    · have ne : x ≠ a := fun z => q (.inr (by rw [z]; exact ha))
      rw [upd_ne ne]
      exact h
    · have ne : b ≠ a := fun z => lo.1 j e2 h1 ob (by rw [h2, hb, z])
      rw [upd_ne ne]
      exact hu
end
def dComp (g : TDG) (tt : TDT) (te : TDE) (P : D → Prop) (env : De) : List D → List D → Prop
  | [], acc => P (.lst acc)
  | x :: xs, acc => g x env fun env' => tt env' fun b => if b = true then te env' fun y => acc.length < sizeLine ∧ dComp g tt te P env xs (acc ++ [y]) else dComp g tt te P env xs acc
def dLc (it : TDI) (g : TDG) (tt : TDT) (te : TDE) (vs : List Nat) : TDE := fun env P => it env fun xs => dComp g tt te P (wipeE env vs) xs []
def tYesD : TDT := fun _ P => P true
section
variable {X : Cx} {F : Fx} {e a b c tg iter : Expr} {es : List Expr} {d da db dc : TDE} {ds : TDA} {pos p : Pos} {i j l : Nat}
theorem ts_nil : PTs X [] (lT F tYesD) := ⟨fun pins s σ H Q I h => pts_nil.run pins s σ H Q I (let ⟨_, _, _, A, pp, q⟩ := h; q true H pp (.refl _ _) A.ok)⟩
theorem ts_one {t : TDT} (h : PT X c (lT F t)) : PTs X [c] (lT F t) := pts_one h
theorem l_lc {S vs : List Nat} {it : TDI} {g : TDG} {tt : TDT} {te : TDE} (hS : ∀ i ∈ S, i ∈ vs) : ∀ σ H Q, lN F (dLc it g tt te vs) σ H Q → tLc (lIb F it) (lG F S g) (lT F tt) (lC F te) vs σ H Q := fun σ H Q ⟨env, L, P, A, pp, q⟩ =>
  ⟨env, L, _, A, pp, fun xs J H1 px k1 o1 ok D nD => by
    have A1 := A.step k1 o1
    have lo : Lone (wipeE env vs) (wipe σ vs) D := (A1.wipe vs).lone nD
    have B0 : Abs F (wipeE env vs) (wipe σ vs) (D :: L) (upd H1 D (.lst [])) := (A1.wipe vs).hold (x := .lst []) (.new nD) (ok_new o1 nD) nD ⟨[], upd_same, .nil⟩
    refine ⟨fun i m H' => ∃ acc us, Abs F (wipeE env vs) (wipe σ vs) (D :: L) H' ∧ (∀ a o, ¬ F.W.own a → H1 a = some o → H' a = some o) ∧ H' D = some (.lst us) ∧ DdAll F.K (F.N (D :: L)) F.W H' us acc ∧ dComp g tt te P (wipeE env vs) (xs.drop i) acc ∧ i ≤ xs.length ∧ m = xs.length - i,
      ⟨_, [], [], B0, fun a o _ h => by rw [upd_ne (ne_of_none h nD)]; exact h, upd_same, .nil, px, Nat.zero_le _, rfl⟩, ?_⟩
    rintro i m H' ⟨acc, us, B, kk, hD, hu, lp, hi, rfl⟩
    obtain ⟨st, go⟩ := ok (F.N (D :: L)) H' (fun a o n h => ⟨fun nn z => by
      rcases z with z | z
      · exact nn (.inl z)
      · rcases List.mem_cons.mp z with z | z
        · rw [z, nD] at h
          cases h
        · exact nn (.inr z), kk a o n h⟩) (fun a h => B.alO h) i
    by_cases hlt : i < xs.length
    · obtain ⟨g1, g2⟩ := go xs[i] (List.getElem?_eq_getElem hlt)
      rw [List.drop_eq_getElem_cons hlt] at lp
      refine .inr ⟨g1, fun H2 => ∃ acc us, Abs F (wipeE env vs) (wipe σ vs) (D :: L) H2 ∧ (∀ a o, ¬ F.W.own a → H1 a = some o → H2 a = some o) ∧ H2 D = some (.lst us) ∧ DdAll F.K (F.N (D :: L)) F.W H2 us acc ∧ dComp g tt te P (wipeE env vs) (xs.drop (i + 1)) acc,
        fun H2 ⟨acc, us, a1, a2, a3, a4, a5⟩ => ⟨xs.length - (i + 1), by omega, acc, us, a1, a2, a3, a4, a5, hlt, rfl⟩, fun v H2 hy => ?_⟩
      obtain ⟨sm, dd⟩ := g2 v H2 hy
      have B2 := B.step (same_keep sm) (same_ok B.ok sm)
      refine ⟨_, _, _, _, B2, dd, lp, fun env3 σ3 p3 B3 w3 _ => ⟨?_, env3, _, _, B3, p3, fun bb H3 p4 k4 o4 => ?_⟩⟩
      · rw [w3 vs hS]
        have : ∀ ws : List Nat, wipe (wipe σ ws) ws = wipe σ ws := by
          intro ws
          apply List.ext_getElem?
          intro n
          by_cases hn : n < (wipe σ ws).length
          · cases hx : (wipe (wipe σ ws) ws)[n]? with
            | none =>
              rw [List.getElem?_eq_none_iff, wipe_length] at hx
              omega
            | some y =>
              cases hz : (wipe σ ws)[n]? with
              | none =>
                rw [List.getElem?_eq_none_iff] at hz
                omega
              | some z =>
                cases y with
                | some y =>
                  rw [(wipe_some hx).1] at hz
                  rw [Option.some.inj hz]
                | none =>
                  cases z with
                  | none => rfl
                  | some z =>
                    exfalso
                    have nm := (wipe_some hz).2
                    have keep : ∀ (τ : L2.St) (us : List Nat), n ∉ us → (wipe τ us)[n]? = τ[n]? := by
                      intro τ us
                      induction us with
                      | nil => intro _; rfl
                      | cons u us ih =>
                        intro hu
                        unfold wipe
                        rw [List.getElem?_set_ne (fun z => hu (by rw [z]; exact List.mem_cons_self)), ih (fun z => hu (List.mem_cons_of_mem _ z))]
                    rw [keep _ ws nm, hz] at hx
                    cases hx
          · rw [List.getElem?_eq_none (by rw [wipe_length]; omega), List.getElem?_eq_none (by omega)]
        exact this vs
      · have B4 := B3.step k4 o4
        have W4 : Abs F (wipeE env vs) (wipe σ vs) (D :: L) H3 := B2.step k4 o4
        have nD0 : ¬ F.W.own D := fun z => B.out List.mem_cons_self (B.wn D z)
        cases bb with
        | true =>
          refine iteT ⟨env3, _, _, B4, p4, fun y v' H5 p5 k5 o5 d5 => ?_⟩
          have hD5 : H5 D = some (.lst us) := k5 D _ nD0 (k4 D _ nD0 (sm D _ hD))
          have hu5 : DdAll F.K (F.N (D :: L)) F.W H5 us acc := W4.kda k5 (B2.kda k4 (B.kda (same_keep sm) hu))
          have W5 := W4.step k5 o5
          refine ⟨us, hD5, by rw [hu5.len]; exact p5.1, acc ++ [y], us ++ [v'], W5.poke List.mem_cons_self lo, fun a o n h => ?_, upd_same, (hu5.app (.cons d5 .nil)).keep (fun x u q h => ?_) (fun _ z => z), p5.2⟩
          · rw [upd_ne (ne_of_none h nD)]
            exact k5 a o n (k4 a o n (sm a o (kk a o n h)))
          · have ne : x ≠ D := fun z => q (.inr (by rw [z]; exact List.mem_cons_self))
            rw [upd_ne ne]
            exact h
        | false => exact iteF ⟨acc, us, W4, fun a o n h => k4 a o n (sm a o (kk a o n h)), k4 D _ nD0 (sm D _ hD), B2.kda k4 (B.kda (same_keep sm) hu), p4⟩
    · have e : xs.drop i = [] := List.drop_eq_nil_of_le (by omega)
      rw [e] at lp
      refine .inl ⟨st (by omega), q _ D H' lp (k1.trans fun a o n h => kk a o n h) B.ok (free_of k1 o1 nD) ⟨us, hD, hu⟩⟩⟩
def dDcomp (g : TDG) (tt : TDT) (tk tv : TDE) (P : D → Prop) (env : De) : List D → List (Key × D) → Prop
  | [], acc => P (.dic acc)
  | x :: xs, acc => g x env fun env' => tt env' fun b => if b = true then tk env' fun k => tv env' fun y => ob (keyD k) fun k => acc.length < sizeLine ∧ dDcomp g tt tk tv P env xs (putD acc k y) else dDcomp g tt tk tv P env xs acc
def dDc (it : TDI) (g : TDG) (tt : TDT) (tk tv : TDE) (vs : List Nat) : TDE := fun env P => it env fun xs => dDcomp g tt tk tv P (wipeE env vs) xs []
theorem wipe_wipe (σ : L2.St) (ws : List Nat) : wipe (wipe σ ws) ws = wipe σ ws := by
  apply List.ext_getElem?
  intro n
  have keep : ∀ (τ : L2.St) (us : List Nat), n ∉ us → (wipe τ us)[n]? = τ[n]? := by
    intro τ us
    induction us with
    | nil => intro _; rfl
    | cons u us ih =>
      intro hu
      unfold wipe
      rw [List.getElem?_set_ne (fun z => hu (by rw [z]; exact List.mem_cons_self)), ih (fun z => hu (List.mem_cons_of_mem _ z))]
  by_cases hm : n ∈ ws
  · have no : ∀ τ : L2.St, ∀ y, (wipe τ ws)[n]? ≠ some (some y) := fun τ y h => (wipe_some h).2 hm
    by_cases hn : n < σ.length
    · have f : ∀ τ : L2.St, n < τ.length → (wipe τ ws)[n]? = some none := fun τ h => by
        cases hx : (wipe τ ws)[n]? with
        | none => rw [List.getElem?_eq_none_iff, wipe_length] at hx; omega
        | some y => cases y with
          | none => rfl
          | some y => exact (no τ y hx).elim
      rw [f _ hn, f _ (by rw [wipe_length]; exact hn)]
    · rw [List.getElem?_eq_none (by rw [wipe_length, wipe_length]; omega), List.getElem?_eq_none (by rw [wipe_length]; omega)]
  · rw [keep _ ws hm]
theorem l_dc {S vs : List Nat} {it : TDI} {g : TDG} {tt : TDT} {tk tv : TDE} (hS : ∀ i ∈ S, i ∈ vs) : ∀ σ H Q, lN F (dDc it g tt tk tv vs) σ H Q → tDc (lIb F it) (lG F S g) (lT F tt) (lC F tk) (lC F tv) vs σ H Q := fun σ H Q ⟨env, L, P, A, pp, q⟩ =>
  ⟨env, L, _, A, pp, fun xs J H1 px k1 o1 ok D nD => by
    have A1 := A.step k1 o1
    have lo : Lone (wipeE env vs) (wipe σ vs) D := (A1.wipe vs).lone nD
    have B0 : Abs F (wipeE env vs) (wipe σ vs) (D :: L) (upd H1 D (.dK [])) := (A1.wipe vs).hold (x := .dic []) (.new nD) (ok_new o1 nD) nD ⟨[], upd_same, rfl, .nil⟩
    refine ⟨fun i m H' => ∃ acc us, Abs F (wipeE env vs) (wipe σ vs) (D :: L) H' ∧ (∀ a o, ¬ F.W.own a → H1 a = some o → H' a = some o) ∧ H' D = some (.dK us) ∧ us.map (·.1) = acc.map (·.1) ∧ DdAll F.K (F.N (D :: L)) F.W H' (us.map (·.2)) (acc.map (·.2)) ∧ dDcomp g tt tk tv P (wipeE env vs) (xs.drop i) acc ∧ i ≤ xs.length ∧ m = xs.length - i,
      ⟨_, [], [], B0, fun a o _ h => by rw [upd_ne (ne_of_none h nD)]; exact h, upd_same, rfl, .nil, px, Nat.zero_le _, rfl⟩, ?_⟩
    rintro i m H' ⟨acc, us, B, kk, hD, hk, hu, lp, hi, rfl⟩
    obtain ⟨st, go⟩ := ok (F.N (D :: L)) H' (fun a o n h => ⟨fun nn z => by
      rcases z with z | z
      · exact nn (.inl z)
      · rcases List.mem_cons.mp z with z | z
        · rw [z, nD] at h
          cases h
        · exact nn (.inr z), kk a o n h⟩) (fun a h => B.alO h) i
    by_cases hlt : i < xs.length
    · obtain ⟨g1, g2⟩ := go xs[i] (List.getElem?_eq_getElem hlt)
      rw [List.drop_eq_getElem_cons hlt] at lp
      refine .inr ⟨g1, fun H2 => ∃ acc us, Abs F (wipeE env vs) (wipe σ vs) (D :: L) H2 ∧ (∀ a o, ¬ F.W.own a → H1 a = some o → H2 a = some o) ∧ H2 D = some (.dK us) ∧ us.map (·.1) = acc.map (·.1) ∧ DdAll F.K (F.N (D :: L)) F.W H2 (us.map (·.2)) (acc.map (·.2)) ∧ dDcomp g tt tk tv P (wipeE env vs) (xs.drop (i + 1)) acc,
        fun H2 ⟨acc, us, a1, a2, a3, a6, a4, a5⟩ => ⟨xs.length - (i + 1), by omega, acc, us, a1, a2, a3, a6, a4, a5, hlt, rfl⟩, fun v H2 hy => ?_⟩
      obtain ⟨sm, dd⟩ := g2 v H2 hy
      have B2 := B.step (same_keep sm) (same_ok B.ok sm)
      refine ⟨_, _, _, _, B2, dd, lp, fun env3 σ3 p3 B3 w3 _ => ⟨?_, env3, _, _, B3, p3, fun bb H3 p4 k4 o4 => ?_⟩⟩
      · rw [w3 vs hS]
        exact wipe_wipe σ vs
      · have B4 := B3.step k4 o4
        have W4 : Abs F (wipeE env vs) (wipe σ vs) (D :: L) H3 := B2.step k4 o4
        have nD0 : ¬ F.W.own D := fun z => B.out List.mem_cons_self (B.wn D z)
        cases bb with
        | true =>
          refine iteT ⟨env3, _, _, B4, p4, fun kx vk H4 p5 k5 o5 d5 => ⟨env3, _, _, B4.step k5 o5, p5, fun y v' H6 p6 k6 o6 d6 => ?_⟩⟩
          obtain ⟨k, ek, p7⟩ := ob_elim p6
          have hv := keyD_v (F := F) (L := D :: L) (.inl d5) ek
          have kt := k5.trans k6
          have hD5 : H6 D = some (.dK us) := kt D _ nD0 (k4 D _ nD0 (sm D _ hD))
          have hu5 : DdAll F.K (F.N (D :: L)) F.W H6 (us.map (·.2)) (acc.map (·.2)) := W4.kda kt (B2.kda k4 (B.kda (same_keep sm) hu))
          have W5 := W4.step kt o6
          obtain ⟨r1, r2⟩ := put_rel (k := k) hk hu5 d6
          refine ⟨us, k, hv, hD5, by rw [kd_len hk]; exact p7.1, putD acc k y, putK us k v', W5.poke List.mem_cons_self lo, fun a o n h => ?_, upd_same, r1, r2.keep (fun x u q h => ?_) (fun _ z => z), p7.2⟩
          · rw [upd_ne (ne_of_none h nD)]
            exact kt a o n (k4 a o n (sm a o (kk a o n h)))
          · have ne : x ≠ D := fun z => q (.inr (by rw [z]; exact List.mem_cons_self))
            rw [upd_ne ne]
            exact h
        | false => exact iteF ⟨acc, us, W4, fun a o n h => k4 a o n (sm a o (kk a o n h)), k4 D _ nD0 (sm D _ hD), hk, B2.kda k4 (B.kda (same_keep sm) hu), p4⟩
    · have e : xs.drop i = [] := List.drop_eq_nil_of_le (by omega)
      rw [e] at lp
      refine .inl ⟨st (by omega), q _ D H' lp (k1.trans fun a o n h => kk a o n h) B.ok (free_of k1 o1 nD) ⟨us, hD, hk, hu⟩⟩⟩
end
def startE (N : List Str) (ds : List D) : De := ds.map En.fz ++ List.replicate (N.length - ds.length) En.no
theorem abs_start {K : PySem.W.Frag} {W : Wd} {N0 : Addr → Prop} {H : Hp} {fr : Fr} {N : List Str} {vs : List V} {ds : List D} (al : ∀ a, N0 a → ∃ o : HoN, H a = some o.1) (wn : ∀ a, W.own a → N0 a) (ok : W.ok H) (dd : DdAll K N0 W H vs ds) :
    Abs ⟨K, W, N0, H, fr⟩ (startE N ds) (start N vs) [] H := by
  have hl := dd.len
  have noOw : ∀ (i : Nat) (e : En), (startE N ds)[i]? = some e → e.isOw = true → False := fun i e h ow => by
    have := List.mem_of_getElem? h
    unfold startE at this
    rcases List.mem_append.mp this with h | h
    · obtain ⟨d, _, rfl⟩ := List.mem_map.mp h
      cases ow
    · rw [(List.mem_replicate.mp h).2] at ow
      cases ow
  have noAd : ∀ (i : Nat) (e : En) (b : Addr), (startE N ds)[i]? = some e → b ∈ e.ad → False := fun i e b h hb => by
    have := List.mem_of_getElem? h
    unfold startE at this
    rcases List.mem_append.mp this with h | h
    · obtain ⟨d, _, rfl⟩ := List.mem_map.mp h
      cases hb
    · rw [(List.mem_replicate.mp h).2] at hb
      cases hb
  refine ⟨ok, al, wn, .refl _ _, fun a h => (by cases h), ?_, fun i j a ei ej h1 h2 o1 o2 s1 s2 => (noOw i ei h1 o1).elim, fun i e b h hb => (noAd i e b h hb).elim, fun i e x h1 h2 => ?_⟩
  · unfold startE L2.start
    rw [List.length_append, List.length_append, List.length_map, List.length_map, List.length_replicate, List.length_replicate, hl]
  · unfold startE at h1
    unfold L2.start at h2
    by_cases hi : i < ds.length
    · rw [List.getElem?_append_left (by rw [List.length_map]; exact hi), List.getElem?_map, List.getElem?_eq_getElem hi] at h1
      rw [List.getElem?_append_left (by rw [List.length_map]; omega), List.getElem?_map, List.getElem?_eq_getElem (by omega)] at h2
      have e1 : e = .fz ds[i] := (Option.some.inj h1).symm
      have e2 : x = some (vs[i]'(by omega)) := (Option.some.inj h2).symm
      subst e1 e2
      obtain ⟨v, g1, g2⟩ := dd.get (List.getElem?_eq_getElem hi)
      rw [List.getElem?_eq_getElem (by omega)] at g1
      have e3 := Option.some.inj g1
      rw [e3]
      exact g2.keep (fun _ _ _ z => z) fun y hy => by
        rcases hy with hy | hy
        · exact hy
        · cases hy
    · rw [List.getElem?_append_right (by rw [List.length_map]; omega)] at h1
      rw [(List.mem_replicate.mp (List.mem_of_getElem? h1)).2]
      trivial
def fin (fr : Fr) (P : D → Prop) : DEnds := { nx := fun _ => fr = .b false ∧ P .non, rt := P }
theorem fn_d {K : PySem.W.Frag} {W : Wd} {N0 : Addr → Prop} {H : Hp} {fr : Fr} {N : List Str} {vs : List V} {ds : List D} {P : D → Prop} {Q : VK} {d : TDS} (al : ∀ a, N0 a → ∃ o : HoN, H a = some o.1) (wn : ∀ a, W.own a → N0 a) (ok : W.ok H) (dd : DdAll K N0 W H vs ds)
    (q : ∀ x v H', P x → KeepW W H H' → W.ok H' → Dd K N0 W H' v x → Nw K W N0 H fr H' v x → Q v H') (h : d (fin fr P) (startE N ds)) :
    lS ⟨K, W, N0, H, fr⟩ d { nx := fun _ H' => Q .non H', rt := Q } (start N vs) H := by
  have nv : ∀ {H' : Hp} {a : Addr} {x : D}, NewV ⟨K, W, N0, H, fr⟩ [] H' a x → NewV ⟨K, W, N0, H, .b true⟩ [] H' a x := fun {H' a x} h => by cases x <;> exact h
  refine ⟨_, [], _, abs_start al wn ok dd, h, fun env' σ' L' H' p A _ => ?_, fun x v H' p r => ?_, fun _ _ _ _ z => z.elim, fun _ _ _ _ z => z.elim⟩
  · exact q .non .non H' p.2 A.kp A.ok .non ⟨fun z => (by rw [p.1] at z; cases z), fun j z => (by rw [p.1] at z; cases z), fun z => by rw [p.1] at z; cases z⟩
  · exact q x v H' p r.kp r.ok r.dd ⟨fun z => (let ⟨a, h1, h2, h3⟩ := r.nw z; ⟨a, h1, h2, nv h3⟩), r.cj, r.pj⟩
end DL
namespace DL
open PySem PySem.Spec PyProof.Rows L2 RK
section
variable {X : Cx} {F : Fx} {e a b c o : Expr} {es : List Expr} {d da db dc : TDE} {ds : TDA} {pos p : Pos} {i j l : Nat}
theorem l_setF_n {t : TE} (h : ∀ σ H Q, lN F d σ H Q → t σ H Q) : ∀ E σ H, lS F (sSet i d) E σ H → tAsg t (gName i) E σ H := fun E σ H ⟨env, L, P, A, pp, hn, _⟩ =>
  h σ H _ ⟨env, L, _, A, pp, fun x v H1 px k o n nv => hn _ _ L H1 px ((A.step k o).setF (nv.dd (A.new n)) i) (k.pres A)⟩
def sPar3 (i j l : Nat) (da db dc : TDE) : TDS := fun P env => da env fun x => db env fun y => dc env fun z => P.nx (((env.set i (.fz x)).set j (.fz y)).set l (.fz z))
theorem look_rel {K : PySem.W.Frag} {N : Addr → Prop} {W : Wd} {H : Hp} {f : Str} : ∀ {fs : List (Str × V)} {fds : List (Str × D)}, fs.map (·.1) = fds.map (·.1) → DdAll K N W H (fs.map (·.2)) (fds.map (·.2)) →
    (fs.lookup f = none ∧ fds.lookup f = none) ∨ ∃ v d, fs.lookup f = some v ∧ fds.lookup f = some d ∧ Dd K N W H v d
  | [], [], _, _ => .inl ⟨rfl, rfl⟩
  | [], _ :: _, e, _ => by cases e
  | _ :: _, [], e, _ => by cases e
  | (k1, v) :: fs, (k2, d) :: fds, e, .cons h a => by
    have e1 : k1 = k2 := (List.cons.inj e).1
    have e2 := (List.cons.inj e).2
    subst e1
    cases hk : f == k1 with
    | true => exact .inr ⟨v, d, by simp [List.lookup, hk], by simp [List.lookup, hk], h⟩
    | false =>
      rcases look_rel (f := f) e2 a with ⟨h1, h2⟩ | ⟨v', d', h1, h2, h3⟩
      · exact .inl ⟨by simpa [List.lookup, hk] using h1, by simpa [List.lookup, hk] using h2⟩
      · exact .inr ⟨v', d', by simpa [List.lookup, hk] using h1, by simpa [List.lookup, hk] using h2, h3⟩
theorem dd_objE {K : PySem.W.Frag} {N : Addr → Prop} {W : Wd} {H : Hp} {v : V} {C : Addr} {fds : List (Str × D)} (h : Dd K N W H v (.obj C fds)) : ∃ a dx fs, v = .ref a ∧ H a = some (.ins C dx fs) ∧ ¬ N a ∧ fs.map (·.1) = fds.map (·.1) ∧ DdAll K N W H (fs.map (·.2)) (fds.map (·.2)) := by
  cases h with | obj h1 h2 h3 h4 => exact ⟨_, _, _, rfl, h1, h2, h3, h4⟩
def dFld (C : Addr) (f : Str) (d : TDE) : TDE := fun env P => d env fun x => match x with | .obj C' fs => C' = C ∧ ob (fs.lookup f) P | _ => False
theorem l_fld {C : Addr} {f : Str} {K : PySem.W.Frag} (c : Cls K C) (n : NoAttr K C f) : ∀ σ H Q, lC F (dFld C f d) σ H Q → tFld K (lC F d) f σ H Q := fun σ H Q ⟨env, L, P, A, pp, q⟩ => ⟨env, L, _, A, pp, fun x v H1 px k1 o1 d1 => by
  cases x with
  | obj C' fs =>
    obtain ⟨rfl, px⟩ := px
    obtain ⟨y, hy, py⟩ := ob_elim px
    obtain ⟨t, dx, us, rfl, h1, _, h2, h3⟩ := dd_objE d1
    rcases look_rel (f := f) h2 h3 with ⟨_, h⟩ | ⟨w, y', g1, g2, g3⟩
    · rw [h] at hy
      cases hy
    · rw [g2] at hy
      cases hy
      exact ⟨t, _, dx, us, w, rfl, h1, c, n, g1, q _ _ H1 py k1 o1 g3⟩
  | _ => exact px.elim⟩
def dMeth (C : Addr) (m : Str) (sp : DSp) (d : TDE) (ds : TDA) : TDE := fun env P => d env fun x => match x with | .obj C' fs => C' = C ∧ fs.lookup m = none ∧ ds env fun xs => sp (.obj C' fs :: xs) P | _ => False
def dMk (C : Addr) (f : Str) (sp : DSp) (ds : TDA) : TDE := fun env P => ds env fun xs => sp xs fun y => P (.obj C [(f, y)])
end
def mergeD (kds more : List (Key × D)) : List (Key × D) := more.foldl (fun acc kd => putD acc kd.1 kd.2) kds
theorem merge_rel {K : PySem.W.Frag} {N : Addr → Prop} {W : Wd} {H : Hp} : ∀ {more : List (Key × V)} {mored : List (Key × D)} {kvs : List (Key × V)} {kds : List (Key × D)}, more.map (·.1) = mored.map (·.1) → DdAll K N W H (more.map (·.2)) (mored.map (·.2)) → kvs.map (·.1) = kds.map (·.1) → DdAll K N W H (kvs.map (·.2)) (kds.map (·.2)) →
    (mergeK kvs more).map (·.1) = (mergeD kds mored).map (·.1) ∧ DdAll K N W H ((mergeK kvs more).map (·.2)) ((mergeD kds mored).map (·.2))
  | [], [], _, _, _, _, h1, h2 => ⟨h1, h2⟩
  | [], _ :: _, _, _, e, _, _, _ => by cases e
  | _ :: _, [], _, _, e, _, _, _ => by cases e
  | (k1, v) :: more, (k2, d) :: mored, kvs, kds, e, .cons h a, h1, h2 => by
    have e1 : k1 = k2 := (List.cons.inj e).1
    subst e1
    obtain ⟨r1, r2⟩ := put_rel (k := k1) h1 h2 h
    exact merge_rel (more := more) (mored := mored) (kvs := putK kvs k1 v) (kds := putD kds k1 d) (List.cons.inj e).2 a r1 r2
theorem mergeD_new : ∀ (more kds : List (Key × D)), ((kds ++ more).map (·.1)).Nodup → mergeD kds more = kds ++ more
  | [], kds, _ => by rw [List.append_nil]; rfl
  | (k, d) :: more, kds, h => by
    have hk : (kds.any fun kd => decide (kd.1 = k)) = false := by
      rw [Bool.eq_false_iff]
      intro hz
      obtain ⟨q, hq, e⟩ := List.any_eq_true.mp hz
      have e := of_decide_eq_true e
      rw [List.map_append, List.nodup_append] at h
      exact h.2.2 q.1 (List.mem_map.mpr ⟨q, hq, rfl⟩) k (by simp) e
    have e2 : putD kds k d = kds ++ [(k, d)] := by
      unfold putD
      rw [hk]
      rfl
    show mergeD (putD kds k d) more = _
    rw [e2, mergeD_new more (kds ++ [(k, d)]) (by rw [List.append_assoc]; exact h), List.append_assoc]
    rfl
def dDictZip (ds : TDA) : TDE := fun env P => ds env fun xs => match xs with
  | [.lst ks, .lst ys] => ob (keysD ks) fun kk => kk.length = ys.length ∧ P (.dic (mergeD [] (kk.zip ys)))
  | _ => False
theorem l_dictZip {F : Fx} {ds : TDA} {K : PySem.W.Frag} (hK : F.K = K) : ∀ σ H Q, lN F (dDictZip ds) σ H Q → RK.tDictZip K (lA F ds) σ H Q := fun σ H Q ⟨env, L, P, A, pp, q⟩ => ⟨env, L, _, A, pp, fun xs vs H1 px k1 o1 d1 => by
  match xs, px, d1 with
  | [.lst ks, .lst ys], px, .cons da (.cons db .nil) =>
    obtain ⟨kk, hk, hl, px⟩ := ob_elim px
    obtain ⟨a, us, rfl, h1, _, h2⟩ := dd_lstE da
    obtain ⟨b, ws, rfl, h3, _, h4⟩ := dd_lstE db
    have hu := keysD_v h2 hk
    subst hu
    have hl2 : kk.length = ws.length := by rw [h4.len]; exact hl
    refine ⟨a, b, kk, ws, rfl, SqL.of h1, SqL.of h3, hl2, fun p hp => q _ p _ px (k1.trans (.new hp)) (ok_new o1 hp) (free_of k1 o1 hp) ?_⟩
    obtain ⟨r1, r2⟩ := merge_rel (K := F.K) (N := F.N L) (W := F.W) (H := H1) (more := kk.zip ws) (mored := kk.zip ys) (kvs := []) (kds := []) (by rw [List.map_fst_zip (by omega), List.map_fst_zip (by omega)]) (by rw [List.map_snd_zip (by omega), List.map_snd_zip (by omega)]; exact h4) rfl .nil
    exact ⟨_, upd_same, r1, new_pres (A.step k1 o1) hp r2⟩⟩
section
variable {P : Program} {w : World} {K : PySem.W.Frag} {mg : Str → Option Value} {base : Heap} {CX : CXT} {k : Nat} {f : Addr} {fd : FuncData} {ps : List Str}
def sp_pull : DSp := fun ds P => ∃ n : Int, ds = [.bag, .int n] ∧ 1 ≤ n ∧ n ≤ 10000000000000000000000000000000000000000 ∧ ∀ r : Int, 0 ≤ r → r < n → P (.int r)
theorem keepW_of {b s : Addr} {T : List (Addr × Str)} {H H' : Hp} (k : RK.Keep b H H') : KeepW (some (b, s, T)) H H' := fun a o n h => k a o (fun z => n (.inl z)) h
theorem tabs_keep {b s : Addr} {T : List (Addr × Str)} {H H' : Hp} (B : Bag b s H) (t : LamX.Tabs T H) (k : RK.Keep b H H') : LamX.Tabs T H' := fun p hp => by
  obtain ⟨ys, hb⟩ := B.hb
  obtain ⟨ps, h1, h2, h3⟩ := t p hp
  refine ⟨ps, k _ _ (fun z => by rw [z, hb] at h1; cases h1) h1, h2, fun pos cv hc => ?_⟩
  obtain ⟨c, e, hcd⟩ := h3 pos cv hc
  exact ⟨c, e, k _ _ (fun z => by rw [z, hb] at hcd; cases hcd) hcd⟩
theorem bag_arg {N : Addr → Prop} {W : Wd} {H : Hp} {v : V} (h : Dd K N W H v .bag) : ∃ b s T, W = some (b, s, T) ∧ v = .ref b := by
  cases h with | bag e => exact ⟨_, _, _, e, rfl⟩
theorem pull_d (h : FnOk P w K mg base CX k f fd ps spPull) : FnOk P w K mg base CX k f fd ps (lSp K false sp_pull) := h.imp fun vs H Q E ⟨W, N0, ds, Pd, al, wn, ok, dd, ⟨n, e, h1, h2, h3⟩, q⟩ => by
  subst e
  cases dd with | cons d1 dd => cases dd with | cons d2 dd =>
    cases dd
    obtain ⟨b, s, T, rfl, rfl⟩ := bag_arg d1
    have := dd_intE d2
    subst this
    exact ⟨b, s, n, rfl, ok.1, h1, h2, fun r H' r0 r1 k B => q _ _ H' (h3 r r0 r1) (keepW_of k.f) ⟨B, tabs_keep ok.1 ok.2.1 k.f, fun ne a ps h => let ⟨qs, q⟩ := k.n a ps h; ok.2.2 ne a qs q⟩ (.int r) ⟨fun z => (by cases z), fun j z => (by cases z), fun z => by cases z⟩⟩
end
end DL
namespace DL
open PySem PySem.Spec PyProof.Rows L2 RK
def st (n : Nat) (ds : List D) : De := ds.map En.fz ++ List.replicate (n - ds.length) En.no
def kwP (π : List Nat) (xs : List D) : List D := π.map fun i => xs.getD i .non
def dCallK (sp : DSp) (π : List Nat) (ds : TDA) : TDE := fun env P => ds env fun xs => xs.length = π.length ∧ sp (kwP π xs) P
section
variable {X : Cx} {F : Fx} {dk : TDA} {pos p : Pos} {CX : CXT} {k : Nat} {f : Addr} {fd : FuncData} {ps ks : List Str} {sp : DSp} {E : XK} {x : Str} {fr : Fr} {K : PySem.W.Frag}
end
section
variable {F : Fx} {env : De} {σ : L2.St} {L : List Addr} {H H' : Hp}
theorem Abs.setAny (A : Abs F env σ L H) (i : Nat) (v : Option V) : Abs F (env.set i .no) (σ.set i v) L H := by
  refine ⟨A.ok, A.al, A.wn, A.kp, A.fr, by rw [List.length_set, List.length_set, A.ls], fun j l a ej el h1 h2 o1 o2 s1 s2 => ?_, A.so.set0 rfl rfl _, fun j e y h1 h2 => ?_⟩
  · have f : ∀ (j : Nat) (ej : En), (env.set i .no)[j]? = some ej → ej.isOw = true → i ≠ j := fun j ej h o z => by
      subst z
      by_cases hi : i < env.length
      · rw [List.getElem?_set_self hi] at h
        cases h
        cases o
      · rw [List.getElem?_eq_none (by rw [List.length_set]; omega)] at h
        cases h
    have hj := f j ej h1 o1
    have hl := f l el h2 o2
    rw [List.getElem?_set_ne hj] at h1 s1
    rw [List.getElem?_set_ne hl] at h2 s2
    exact A.sep j l a ej el h1 h2 o1 o2 s1 s2
  · by_cases hj : i = j
    · subst hj
      by_cases hi : i < env.length
      · rw [List.getElem?_set_self hi] at h1
        cases h1
        trivial
      · rw [List.getElem?_eq_none (by rw [List.length_set]; omega)] at h1
        cases h1
    · rw [List.getElem?_set_ne hj] at h1 h2
      exact A.en j e y h1 h2
end
theorem init1 {K : PySem.W.Frag} {W : Wd} {N0 : Addr → Prop} {H1 : Hp} {x dx C : Addr} {f : Str} {us : List V} {ds : List D} {N : List Str} {Pd : D → Prop} {Q : VK} {d1 d2 : TDE} (c : Cls K C) (na : NoAttr K C f) (nx : H1 x = none) (ndx : H1 dx = none) (ne : dx ≠ x)
    (al : ∀ a, N0 a → ∃ o : HoN, H1 a = some o.1) (wn : ∀ a, W.own a → N0 a) (ok : W.ok H1) (dd : DdAll K N0 W H1 us ds) (hN : us.length + 1 ≤ N.length)
    (q : ∀ y H', Pd y → KeepW W H1 H' → W.ok H' → Dd K N0 W H' (.ref x) (.obj C [(f, y)]) → Q .non H') (h : d1 (.no :: startE (N.drop 1) ds) fun _ => d2 (.no :: startE (N.drop 1) ds) Pd) :
    tSeq (tDrop (lC ⟨K, W, N0, H1, false⟩ d1)) (sFld K (tVar 0) (lN ⟨K, W, N0, H1, false⟩ d2) f) { nx := fun _ H' => Q .non H', rt := Q } (L2.start N (.ref x :: us)) (upd (upd H1 dx (.own x)) x (.ins C dx [])) := by
  obtain ⟨n0, N', rfl⟩ : ∃ n0 N', N = n0 :: N' := by
    cases N with
    | nil => simp at hN
    | cons a b => exact ⟨a, b, rfl⟩
  have A0 : Abs ⟨K, W, N0, H1, false⟩ (startE (n0 :: N') (.non :: ds)) (L2.start (n0 :: N') (.non :: us)) [] H1 := abs_start al wn ok (.cons .non dd)
  have A1 := A0.setAny 0 (some (.ref x))
  have e1 : (startE (n0 :: N') (.non :: ds)).set 0 .no = .no :: startE N' ds := by
    unfold startE
    rw [List.map_cons, List.cons_append, List.set_cons_zero, List.length_cons, List.length_cons, Nat.add_sub_add_right]
  have e2 : (L2.start (n0 :: N') (.non :: us)).set 0 (some (.ref x)) = L2.start (n0 :: N') (.ref x :: us) := by
    unfold L2.start
    rw [List.map_cons, List.cons_append, List.set_cons_zero]
    rfl
  rw [e1, e2] at A1
  have nx2 : (upd H1 dx (.own x)) x = none := by rw [upd_ne ne.symm]; exact nx
  have k0 : KeepW W H1 (upd (upd H1 dx (.own x)) x (.ins C dx [])) := (KeepW.new ndx).trans (.new nx2)
  have o0 : W.ok (upd (upd H1 dx (.own x)) x (.ins C dx [])) := ok_new (ok_new ok ndx) nx2
  have A2 : Abs ⟨K, W, N0, H1, false⟩ (.no :: startE N' ds) (L2.start (n0 :: N') (.ref x :: us)) [x] (upd (upd H1 dx (.own x)) x (.ins C dx [])) := A1.grow k0 o0 (pres_cons A1 k0 nx) (fun a h => by cases h) fun a h => by
    rcases List.mem_cons.mp h with h | h
    · subst h
      exact .inr ⟨nx, _, upd_same, True.intro⟩
    · cases h
  have nox : ¬ W.own x := fun z => by
    obtain ⟨o, e⟩ := al x (wn x z)
    rw [nx] at e
    cases e
  refine ⟨_, _, _, A2, h, fun _ v H2 p2 k2 o2 _ => ?_⟩
  have A3 := A2.step k2 o2
  refine ⟨_, _, _, A3, p2, fun y a H3 p3 k3 o3 na3 nv => ?_⟩
  have hx : H3 x = some (.ins C dx []) := k3 x _ nox (k2 x _ nox upd_same)
  refine ⟨.ref x, rfl, x, C, dx, [], rfl, hx, c, na, by decide, q y _ p3 ?_ ?_ ?_⟩
  · intro b o nb hb
    have hne : b ≠ x := ne_of_none hb nx
    rw [upd_ne hne]
    exact k3 b o nb (k2 b o nb (k0 b o nb hb))
  · exact Wd.st o3 (n := noT_upd True.intro) fun b o hb nb => by
      have hne : b ≠ x := fun z => by
        rcases nb with nb | nb
        · exact nox (z ▸ nb)
        · rw [z, hx] at hb
          exact nb (Option.some.inj hb ▸ True.intro)
      rw [upd_ne hne]
      exact hb
  · have hn : ¬ N0 x := fun z => by
      obtain ⟨o, e⟩ := al x z
      rw [nx] at e
      cases e
    have A4 := A3.step k3 o3
    have dy : Dd K (Fx.N ⟨K, W, N0, H1, false⟩ [x]) W H3 (.ref a) y := nv.dd (A3.new na3)
    have dy2 : Dd K N0 W (upd H3 x (.ins C dx (putF f (.ref a) []))) (.ref a) y := dy.pres fun b o nb hb => ⟨fun z => nb (.inl z), by
      have hne : b ≠ x := fun z => nb (.inr (by rw [z]; exact List.mem_cons_self))
      rw [upd_ne hne]
      exact hb⟩
    exact .obj upd_same hn rfl (.cons dy2 .nil)
theorem so_law {n : Nat} {σ : L2.St} : SoP (.no :: .fz .bag :: List.replicate n .no) σ := fun i e b h hb => by
  exfalso
  match i, h with
  | 0, h => cases h; cases hb
  | 1, h => cases h; cases hb
  | i + 2, h =>
    rw [List.getElem?_cons_succ, List.getElem?_cons_succ] at h
    rw [(List.mem_replicate.mp (List.mem_of_getElem? h)).2] at hb
    cases hb
end DL
namespace RK
open PySem PySem.Spec PyProof.Rows L2
open PySem.Sem (wp)
abbrev enT1 (l : Addr) : Obj := { cls := .type "tuple_iterator", data := .fields #[.ref l, .int 0 0] }
abbrev enT2 (n : Addr) : Obj := { cls := .type "enumerate", data := .fields #[.none, .bool false, .ref n, rawInt 0, .none, .none] }
end RK
namespace DL
open PySem PySem.Spec PyProof.Rows L2 RK
section
variable {X : Cx} {F : Fx} {e a b c tg iter : Expr} {es : List Expr} {d da db dc : TDE} {ds : TDA} {pos p : Pos} {i j l : Nat}
theorem abs_frz {env : De} {σ : L2.St} {L : List Addr} {H : Hp} {e : En} (A : Abs F env σ L H) (h1 : env[i]?.bind frz = some e) : ∃ L', Abs F (env.set i e) σ L' H := by
  obtain ⟨e0, h2, h3⟩ := Option.bind_eq_some_iff.mp h1
  obtain ⟨x, h4, rfl⟩ := Option.map_eq_some_iff.mp h3
  obtain ⟨v, hs, en⟩ := abs_at A h2 (by rintro rfl; cases h4)
  obtain ⟨t, rfl⟩ := owD_ref en h4
  have ow : e0.isOw = true := by cases e0 <;> first | rfl | cases h4
  obtain ⟨ht, nv⟩ := ow_new A en h4
  have sub : ∀ y, F.N (L.filter fun z => decide (z ≠ t)) y → F.N L y := fun y hy => hy.imp id fun z => (List.mem_filter.mp z).1
  have nt : ¬ F.N (L.filter fun z => decide (z ≠ t)) t := fun z => by
    rcases z with z | z
    · exact A.out ht z
    · have := (List.mem_filter.mp z).2
      simp at this
  have dd : Dd F.K (F.N (L.filter fun z => decide (z ≠ t))) F.W H (.ref t) x := by
    have key : ∀ {vs : List V} {ds : List D}, DdAll F.K (F.N L) F.W H vs ds → DdAll F.K (F.N (L.filter fun z => decide (z ≠ t))) F.W H vs ds := fun h => h.keep (fun _ _ _ z => z) sub
    cases e0 with
    | ow ds => cases h4; obtain ⟨_, vs, q1, q2⟩ := en; exact .lst q1 nt (key q2)
    | od ds => cases h4; obtain ⟨_, vs, q1, q3, q2⟩ := en; exact .dic (.inl q1) nt q3 (key q2)
    | ot ds => cases h4; obtain ⟨_, vs, q1, q3, q2⟩ := en; exact .dct (.inl q1) nt q3 (key q2)
    | otr G ds => cases h4; obtain ⟨_, vs, q1, q2⟩ := en; exact .tr q1 nt (q2.pres fun x o q e => ⟨fun z => q (sub x z), e⟩)
    | _ => cases h4
  have hil : i < env.length := (List.getElem?_eq_some_iff.mp h2).1
  refine ⟨L.filter fun z => decide (z ≠ t), A.ok, A.al, A.wn, A.kp, fun y hy => A.fr y (List.mem_filter.mp hy).1, by rw [List.length_set, A.ls], fun j l b ej el g1 g2 o1 o2 s1 s2 => ?_, A.so.setS rfl rfl, fun j e' y g1 g2 => ?_⟩
  · by_cases hj : i = j
    · subst hj
      rw [List.getElem?_set_self hil] at g1
      cases g1
      cases o1
    · by_cases hl : i = l
      · subst hl
        rw [List.getElem?_set_self hil] at g2
        cases g2
        cases o2
      · rw [List.getElem?_set_ne hj] at g1
        rw [List.getElem?_set_ne hl] at g2
        exact A.sep j l b ej el g1 g2 o1 o2 s1 s2
  · by_cases hj : i = j
    · subst hj
      rw [List.getElem?_set_self hil] at g1
      cases g1
      rw [hs] at g2
      cases g2
      exact dd
    · rw [List.getElem?_set_ne hj] at g1
      refine EnOk.keep A (fun x u q h => h) sub (fun b hb ob hbL => ⟨List.mem_filter.mpr ⟨hbL, decide_eq_true ?_⟩, fun u hu => hu⟩) (fun b hb hbL => ⟨List.mem_filter.mpr ⟨hbL, decide_eq_true fun z => (A.so j e' b g1 hb).1 i e0 h2 ow (by rw [z]; exact hs)⟩, fun u hu => hu⟩) (A.en j e' y g1 g2)
      exact fun z => hj (A.sep i j t e0 e' h2 g1 ow ob hs (by rw [g2, hb, z]))
theorem leaf_any {K : PySem.W.Frag} {N N' : Addr → Prop} {W : Wd} {H : Hp} {v : V} {x : D} (l : x.leaf = true) (h : Dd K N W H v x) : Dd K N' W H v x := by
  cases h with
  | non => exact .non
  | bl b => exact .bl b
  | int i => exact .int i
  | str x => exact .str x
  | lst _ _ _ => cases l
  | tup _ _ _ => cases l
  | dic _ _ _ _ => cases l
  | dct _ _ _ _ => cases l
  | obj _ _ _ _ => cases l
  | ktp _ _ _ _ _ _ => cases l
  | bag _ => cases l
  | tr _ _ _ => cases l
  | fn _ _ => cases l
abbrev SP := Str × Str
end
end DL
namespace DL
open PySem PySem.Spec PyProof.Rows L2 RK
section
variable {X : Cx} {F : Fx} {e a b c tg iter : Expr} {es : List Expr} {d da db dc : TDE} {ds : TDA} {pos p : Pos} {i j l : Nat}
end
end DL
namespace DL
open PySem PySem.Spec PyProof.Rows L2 RK
section
variable {X : Cx} {F : Fx} {e o a b : Expr} {d : TDE} {pos apos cpos : Pos} {i : Nat}
end
end DL
namespace DL
open PySem PySem.Spec PyProof.Rows L2 RK
section
variable {X : Cx}
abbrev oneGen (tg iter : Expr) (ifs : List Expr) : List Comprehension := [⟨tg, iter, ifs, 0⟩]
end
end DL
namespace DL
open PySem PySem.Spec PyProof.Rows L2 RK
section
variable {X : Cx} {F : Fx} {e a b c o : Expr} {es : List Expr} {d da db dc : TDE} {ds : TDA} {pos p apos : Pos}
end
end DL
namespace DL
open PySem PySem.Spec PyProof.Rows L2 RK
section
variable {X : Cx} {F : Fx} {e a b c o : Expr} {es : List Expr} {d da db dc : TDE} {ds : TDA} {pos p apos : Pos}
end
section
variable {X : Cx} {F : Fx} {e : Expr} {d : TDE} {pos p : Pos} {k : Nat}
end
end DL
namespace RK
open PySem PySem.Spec PyProof.Rows L2
def metK (val : Nat → Key) (i : Nat) (k : Key) : Bool := (List.range i).any fun j => decide (val j = k)
def cntK (val : Nat → Key) : Nat → Nat
  | 0 => 0
  | i + 1 => if metK val i (val i) = true then cntK val i else cntK val i + 1
theorem cntK_le (val : Nat → Key) : ∀ i, cntK val i ≤ i
  | 0 => Nat.le_refl _
  | i + 1 => by
    have := cntK_le val i
    rw [cntK]
    split <;> omega
theorem metK_succ (val : Nat → Key) (i : Nat) (k : Key) : metK val (i + 1) k = (metK val i k || decide (k = val i)) := by
  unfold metK
  rw [List.range_succ, List.any_append, List.any_cons, List.any_nil, Bool.or_false]
  congr 1
  exact decide_eq_decide.mpr eq_comm
section
variable {prog : Program} {w : World} {A : Around} {R : Result → Shared → Prop} {I S : Addr} {fp wr : List Addr} {G : Array GenState → Array GenState → Prop} {n : Nat} {P : Nat → Value → Prop} {St : Nat → Shared → Prop}
theorem keep_set {h z : Heap} {S' : Key → Bool} {c : Nat} (q : h.SetOf (mixKind prog w) S S' c) (k : ∀ o, h.get? S = some o → z.get? S = some o) : z.SetOf (mixKind prog w) S S' c := by
  obtain ⟨o, es, ep, t, ho, r⟩ := q
  exact ⟨o, es, ep, t, k o ho, r⟩
theorem set_go (W : WalksS prog w A.in1 I fp wr G n P St) (out : S ∉ fp) {val : Nat → Key} (hv : ∀ i v, P i v → (mixKind prog w).is (val i) v = true ∧ v.scannable = true) (room : n + 1 < scanBound) :
    ∀ (m i : Nat) (s : Shared), n = i + m → St i s → s.heap.SetOf (mixKind prog w) S (metK val i) (cntK val i) → (∀ z, Moved (S :: wr) G s z → z.heap.SetOf (mixKind prog w) S (metK val n) (cntK val n) → R (.ok (.ret .none)) z) →
      codeAny (model prog w) A (.builtin "set.update.loop" ⟨[.ref S, .ref I], []⟩) R s := by
  have nw : S ∉ wr := fun z => out (W.sub _ z)
  have up : ∀ b ∈ wr, b ∈ S :: wr := fun b z => List.mem_cons_of_mem _ z
  intro m
  induction m with
  | zero =>
    intro i s e st q fin
    have e : n = i := by omega
    subst e
    refine codeAny_builtin (by exact F.entry_set_update_loop) ?_
    rw [Around.under_plainId (by exact F.plain_set_update_loop)]
    refine wpAny_bind (W.done s _ _ st fun z mv => wpAny_pure (fin z (mv.mono up) (keep_set q fun o ho => mv.heap S _ nw ho)))
  | succ m go =>
    intro i s e st q fin
    refine codeAny_builtin (by exact F.entry_set_update_loop) ?_
    rw [Around.under_plainId (by exact F.plain_set_update_loop)]
    refine wpAny_bind (W.item i s _ _ (by omega) st fun v z hP st2 mv => ?_)
    obtain ⟨hk, hs⟩ := hv i v hP
    have q2 := keep_set q (z := z.heap) fun o ho => mv.heap S _ nw ho
    refine wpAny_bind (wpAny_holding ?_)
    unfold setAdd
    refine wpAny_holding (wpAny_bind ((mixKind prog w).pyHash hk ?_))
    refine wpAny_setAddHashed_of (s := { z with toks := z.toks + 1 }) hk hs q2 (by have := cntK_le val i; omega) fun g sb q3 => ?_
    have q4 : g.SetOf (mixKind prog w) S (metK val (i + 1)) (cntK val (i + 1)) := by
      have e1 : (fun k => metK val i k || decide (k = val i)) = metK val (i + 1) := funext fun k => (metK_succ val i k).symm
      rw [e1] at q3
      rw [cntK]
      exact q3
    refine wpAny_pure ⟨plainId_quiet (by exact F.plain_set_update_loop) _, go (i + 1) _ (by omega) (W.frame _ z _ _ st2 (Nat.le_succ _) fun b hb o eb => ?_) q4 fun y my qy => fin y ?_ qy⟩
    · rw [sb.2 b fun x => out (x ▸ hb)]
      exact eb
    · refine Moved.trans W.gtrans ((mv.mono up).then_heap (Nat.le_succ _) fun b o hb eb => ?_) my
      rw [sb.2 b fun x => hb (x ▸ List.mem_cons_self)]
      exact eb
end
section
variable {prog : Program} {w : World} {A : Around} {E : Value → Shared → Prop} {s : Shared}
def newSet (led : Bool) : Obj := { cls := .type "set", dict := none, data := .set #[] 0 (.fresh 0 0 led) }
theorem set_made {x : Value} {Q : Value → Shared → Prop} (K : Shared → Prop) (fin : ∀ z, K z → Q (.ref s.heap.objs.size) z)
    (go : ∀ led : Bool, wpAny (model prog w) A.in1.in1 (Builtin.«set.__init__» ⟨[.ref s.heap.objs.size, x], []⟩) (fun f z => match f with | .done f => wants (fun r y => r = Value.none ∧ K y) E (.ok f) z | .again c => c.quiet = true ∧ codeAny (model prog w) A.in1 c (wants (fun r y => r = Value.none ∧ K y) E) z) (fun e z => wants (fun r y => r = Value.none ∧ K y) E (.error e) z) { s with heap := s.heap.push (newSet led) }) :
    wpAny (model prog w) A (call (.type "set") [x]) Q E s := by
  have a1 := PySem.F.called_set.made
  have a2 := PySem.F.called_set.sub
  obtain ⟨c, tl, a3⟩ := PySem.F.called_set.mro
  refine wpAny_call (codeAny_of_tree (wpAny_pure ⟨Code.quiet_builtin _ (by decide +kernel), codeAny_builtin (by exact PySem.F.entry_type_call) ?_⟩))
  rw [Around.under_plain (weight_type_call_type "set" [x] []) rfl]
  have a4 := PySem.F.called_set.notType
  have a5 := PySem.F.called_set.canCreate
  have a6 := PySem.F.typeCall_set_1 x
  repeat (any_goals (first | assumption | wp_step))
  refine codeAny_mono (code_set_new_1 x (E := E) (Q₁ := fun v z => v = .ref s.heap.objs.size ∧ ∃ led : Bool, z = { s with heap := s.heap.push (newSet led) }) fun led => ⟨rfl, led, rfl⟩) fun r z hr => ?_
  cases r with
  | error e => exact hr
  | ok f =>
    cases f with
    | ret v =>
      obtain ⟨rfl, led, rfl⟩ := hr
      have b1 : (s.heap.push (newSet led)).get? s.heap.objs.size = some (newSet led) := Heap.get?_push_size _ rfl
      have b2 : Shared.TypeIs { s with heap := s.heap.push (newSet led) } (.ref s.heap.objs.size) "set" := ⟨_, b1, rfl⟩
      have b3 := PySem.F.called_set.init.lookup
      have b4 := PySem.F.called_set.init.bind (.ref s.heap.objs.size)
      repeat (any_goals (first | assumption | wp_step))
      refine codeAny_mono (codeAny_call_builtin (R := wants (fun r y => r = .none ∧ K y) E) PySem.F.called_set.init.plain PySem.F.entry_set_init (check_set_init_1 b2 ?_)) fun r y hy => ?_
      · exact go led
      · cases r with
        | error e => exact hy
        | ok f =>
          cases f with
          | ret v =>
            obtain ⟨rfl, ky⟩ := hy
            repeat (any_goals (first | assumption | wp_step))
            exact fin _ ky
          | _ => exact hy.elim
    | _ => exact hr.elim
def SetMade (prog : Program) (w : World) (s : Shared) (val : Nat → Key) (n : Nat) (z : Shared) : Prop :=
  ∃ g tk, z = { s with heap := g, toks := tk } ∧ g.SetOf (mixKind prog w) s.heap.objs.size (metK val n) (cntK val n) ∧ ∀ b o, s.heap.get? b = some o → g.get? b = some o
theorem fresh_set (led : Bool) {h : Heap} {a : Addr} (q : h.get? a = some (newSet led)) (val : Nat → Key) : h.SetOf (mixKind prog w) a (metK val 0) (cntK val 0) := by
  exact ⟨_, #[], 0, _, q, ⟨rfl, rfl, rfl⟩, rfl, fun e he => (by simp at he), fun k => (by simp [metK]), (by decide), (by rfl), rfl⟩
theorem set_end {wr : List Addr} {val : Nat → Key} {n : Nat} {led : Bool} {ob : Obj} {z : Shared} (mv : Moved (s.heap.objs.size :: [(s.heap.push (newSet led)).objs.size]) (fun a b => b = a) { s with heap := (s.heap.push (newSet led)).push ob } z) (q : z.heap.SetOf (mixKind prog w) s.heap.objs.size (metK val n) (cntK val n)) : SetMade prog w s val n z := by
  obtain ⟨g, a, b, c, d⟩ := z
  obtain rfl : a = s.gens := mv.gens
  obtain rfl : b = s.drawn := mv.drawn
  obtain rfl : d = s.os := mv.os
  refine ⟨g, c, rfl, q, fun x o e => mv.heap x o (fun hx => ?_) (Heap.get?_push_of_some _ (Heap.get?_push_of_some _ e))⟩
  have lt := Heap.lt_size e
  rw [Heap.size_push] at hx
  simp only [List.mem_cons, List.not_mem_nil, or_false] at hx
  rcases hx with hx | hx
  · exact absurd lt (hx ▸ Nat.lt_irrefl _)
  · exact absurd lt (hx ▸ Nat.not_lt.mpr (Nat.le_succ _))
theorem apart (led : Bool) {l : Addr} (lt : l < s.heap.objs.size) : s.heap.objs.size ∉ [(s.heap.push (newSet led)).objs.size, l] := fun z => by
  rw [Heap.size_push] at z
  rcases List.mem_cons.mp z with z | z
  · exact Nat.ne_of_lt (Nat.lt_succ_self _) z
  · exact Nat.ne_of_gt lt (List.mem_singleton.mp z)
theorem set_list {l : Addr} {items : Array Value} {val : Nat → Key} {Q : Value → Shared → Prop} (hh : A.handled = none) (hl : s.heap.IsList l items) (hv : ∀ i v, items[i]? = some v → (mixKind prog w).is (val i) v = true ∧ v.scannable = true) (room : items.size + 1 < scanBound)
    (h : ∀ z, SetMade prog w s val items.size z → Q (.ref s.heap.objs.size) z) : wpAny (model prog w) A (call (.type "set") [.ref l]) Q E s := by
  refine set_made (SetMade prog w s val items.size) h fun led => ?_
  obtain ⟨⟨k1, k2, k3, k4⟩, c1, c2, c4, c5⟩ := hl
  simp only at c2 c5
  subst c2 c5
  have d1 : (s.heap.push (newSet led)).get? l = some { cls := .type "list", dict := k2, data := .seq items c4, slots := k4 } := Heap.get?_push_of_some _ c1
  have d2 := PySem.F.sub_list_set
  have d3 := PySem.F.sub_list_frozenset
  have d4 : (Value.type "list" == Value.type "dict") = false := by decide
  have d5 : (s.heap.push (newSet led)).IsList l items := ⟨_, d1, rfl, c4, rfl⟩
  unfold Builtin.«set.__init__» noKeywords Builtin.Frozenset.updateFrom
  generalize hPI : pyIter = PI
  wp_walk
  subst hPI
  have lt : l < s.heap.objs.size := Heap.lt_size c1
  refine wpAny_pyIter_list d5 (wpAny_bind (wpAny_runValue (set_go ((Walks.list (by simp [hh]) _ l (by rw [Heap.size_push]; exact Nat.ne_of_lt (Nat.lt_succ_of_lt lt)) items).toS) (apart led lt) hv room items.size 0 _ (by omega) ⟨⟨_, Heap.get?_push_size _ rfl, rfl, rfl⟩, d5.push _⟩ ?_ fun z mv q => ?_)))
  · exact fresh_set led (Heap.get?_push_of_some _ (Heap.get?_push_size _ rfl)) val
  · exact wpAny_pure (wpAny_pure ⟨rfl, set_end (wr := []) mv q⟩)
end
end RK
namespace PySem
namespace SplatX
open PySem.Spec PyProof.Rows
section
variable {prog : Program} {w : World} {K : Type} [DecidableEq K] {knd : KeyKind prog w K} {A : Around} {E : Value → Shared → Prop} {s : Shared}
end
end SplatX
end PySem
namespace RK
open PySem PySem.Spec PyProof.Rows L2
end RK
namespace DL
open PySem PySem.Spec PyProof.Rows L2 RK
section
variable {X : Cx} {F : Fx} {e a b c e1 e2 k0 : Expr} {es : List Expr} {d da db dc d1 d2 dk : TDE} {ds : TDA} {pos p p2 q0 : Pos}
end
end DL
namespace DL
open PySem PySem.Spec PyProof.Rows L2 RK
section
variable {X : Cx} {F : Fx}
end
end DL
namespace DL
open PySem PySem.Spec PyProof.Rows L2 RK
section
variable {X : Cx} {F : Fx} {e : Expr} {d : TDE} {pos p : Pos}
end
end DL
namespace DL
open PySem PySem.Spec PyProof.Rows L2 RK
section
variable {X : Cx} {F : Fx} {e a b : Expr} {d da db : TDE} {pos p : Pos}
end
end DL
namespace DL
open PySem PySem.Spec PyProof.Rows L2 RK
section
variable {X : Cx} {F : Fx} {a b : Expr} {da db : TDE} {pos : Pos}
end
end DL
namespace RK
open PySem PySem.Spec PyProof.Rows L2
def FnAt (P : Program) (w : World) (K : PySem.W.Frag) (mg : Str → Option Value) (base : Heap) (CX : CXT) (A : Around) (f : Addr) (fd : FuncData) (ps : List Str) (sp : Sp) : Prop :=
  ∀ (outer : List Env) (s : Shared) (H : Hp) (args : Args) (us : List Value) (vs : List V) (Q : VK) (E : XK), Env0 P w K mg base A outer s H → BindsTo s fd args (ps.zip us) → Vals vs us → sp vs H Q E → codeAny (model P w) A (.call (.ref f) args) (CR CX outer P w H s Q E) s
variable {P : Program} {w : World} {K : PySem.W.Frag} {mg : Str → Option Value} {base : Heap}
theorem fn_at {CX : CXT} {k : Nat} {f : Addr} {name qual : Str} {params : Arguments} {body : List Stmt} {scope : Scope} {dV kV doc pm cdv ct oc : Value} {an od : Option Addr} {osl : Array (Option Value)} {N ps : List Str} {sp : Sp} {A : Around} (hr : Room (k + 1) A)
    (lk : K.lookup f = some ⟨oc, od, .func (PySem.W.fnOf name qual params body scope dV kV doc pm an cdv ct), osl⟩) (hcd : PySem.W.codeIn K cdv qual = true) (S : FnScope N ps scope) (len : ∀ vs H Q E, sp vs H Q E → vs.length = ps.length)
    (hbody : ∀ (outer : List Env) (s : Shared) (H : Hp) (vs : List V) (Q : VK) (E : XK), sp vs H Q E → ∃ t, PSs (cxOf CX P w K mg base N qual scope f cdv A outer s H E) body t ∧ t { nx := fun _ H' => Q .non H', rt := Q } (start N vs) H) :
    FnAt P w K mg base CX A f (PySem.W.fnOf name qual params body scope dV kV doc pm an cdv ct) ps sp := by
  intro outer s H args us vs Q E e0 hb rv hsp
  have KX : K.In s.heap := e0.mod.kin.keeps fun b o e => (e0.bs b o e).1
  have nl : s.heap.NoLimit := e0.mod.nolimit.keeps fun b o e => (e0.bs b o e).1
  have kinds : ∀ y ∈ ps.zip us, scope.names.lookup y.1 = some .local ∨ (scope.names.lookup y.1 = some .cell ∧ ((cellsFrom (s.heap.objs.size + 1) scope.names []).lookup y.1).isSome = true) := by
    rintro ⟨n, v⟩ hy
    exact (S.par n (List.of_mem_zip hy).1).imp id fun q => ⟨q, PySem.W.cellsFrom_some _ _ _ (.inl q)⟩
  refine codeAny_call_function hr.depth (KX _ _ lk) rfl S.co S.gen rfl (PySem.W.codeRec_of KX hcd) (hb _ _ _ _ (wpAny_newFunctionEnv_cells S.kind kinds fun env he s1 x => ?_))
  cases he
  obtain ⟨t, ht, hq⟩ := hbody outer s H vs Q E hsp
  refine ⟨nl.keeps x.toInCall.keep, codeAny_func (wpAny_mono (ht.run [] s1 (start N vs) H _ (inv_start S hr.hd e0 (len _ _ _ _ hsp) rv x) hq) (fun fl s' hs => ?_) fun e s' hs => hs)⟩
  cases fl with
  | ret u => exact (let ⟨v, _, H', J, rv, q⟩ := hs; ⟨v, H', J.os, J.bare, J.base, J.hok, rv, q⟩)
  | next => exact (let ⟨_, H', J, q⟩ := hs; ⟨V.non, H', J.os, J.bare, J.base, J.hok, rfl, q⟩)
  | brk => exact (let ⟨_, _, _, q⟩ := hs; False.elim q)
  | cont => exact (let ⟨_, _, _, q⟩ := hs; False.elim q)
end RK
namespace DL
open PySem PySem.Spec PyProof.Rows L2 RK
section
variable {X : Cx} {F : Fx} {e : Expr} {d : TDE} {pos p : Pos}
end
end DL
namespace RK
open PySem PySem.Calls PyProof.Rows PyProof.V PySem.Spec PySem.W
section
variable {prog : Program} {w : World} {K : Type} [DecidableEq K] {knd : KeyKind prog w K} {A : Around} {E : Value → Shared → Prop} {s : Shared}
end
end RK
namespace DL
open PySem PySem.Spec PyProof.Rows L2 RK
section
variable {X : Cx} {F : Fx} {e a b : Expr} {d da db : TDE} {pos p : Pos}
end
end DL
namespace RK
open PySem PySem.Spec PyProof.Rows L2
inductive TestOk (X : Cx) : Expr → List Value → Prop
  | one {x : Str} {c : Value} {np : Pos} (hc : L2.Names X x c) : TestOk X (.Name x np) [c]
  | two {x1 x2 : Str} {c1 c2 : Value} {p1 p2 tp : Pos} {kk : Nat} (h1 : L2.Names X x1 c1) (h2 : L2.Names X x2 c2) : TestOk X (.Tuple [.Name x1 p1, .Name x2 p2] kk tp) [c1, c2]
def wManyAs (K : PySem.W.Frag) (Wout : WX) (D : Ends) (i : Nat) : List (List Value × (Addr → Value → Option Addr → TS)) → WX
  | [] => Wout
  | (cs, ts) :: r => fun cls d σ H => ∃ b, PySem.W.exmAny K cls cs = some b ∧
      (b = true → ∀ a, H a = none → i < σ.length → ts a cls d { nx := fun σ' H' => D.nx (σ'.set i none) H', rt := D.rt, bk := fun σ' H' => D.bk (σ'.set i none) H', ct := fun σ' H' => D.ct (σ'.set i none) H' } (σ.set i (some (.ref a))) H) ∧
      (b = false → wManyAs K Wout D i r cls d σ H)
inductive HdsAs (X : Cx) (n : Str) : List ExceptHandler → List (List Value × (Addr → Value → Option Addr → TS)) → Prop
  | nil : HdsAs X n [] []
  | cons {te : Expr} {cs : List Value} {ts : Addr → Value → Option Addr → TS} {b₀ : Stmt} {suite : List Stmt} {pos' : Pos} {hds : List ExceptHandler} {l : List (List Value × (Addr → Value → Option Addr → TS))} (hc : TestOk X te cs)
      (hsu : ∀ (a : Addr) (oe : Obj) (cls : Value) (d : Option Addr) (pn : List (Addr × Obj)), Zc cls d oe → (∃ vs, oe.data = .fields vs) → PSs (X.suite a ((a, oe) :: pn)) (b₀ :: suite) (ts a cls d)) (r : HdsAs X n hds l) :
      HdsAs X n (.ExceptHandler (some te) (some n) (b₀ :: suite) pos' :: hds) ((cs, ts) :: l)
theorem flying_push {B h : Heap} {l : List Env} {a : Addr} {Z : Obj → Prop} (x : HandSPX.FlyingZ B l a Z h) (o : Obj) : HandSPX.FlyingZ B l a Z (h.push o) := by
  obtain ⟨k1, k2, k3, oe, vs, T, oT, ts', he, hz, hd, h1, h2, h3, h4, h5⟩ := x
  exact ⟨fun b o e => Heap.get?_push_of_some _ (k1 b o e), k2, k3.of_keeps fun b o e _ => ⟨o, Heap.get?_push_of_some _ e, rfl⟩, oe, vs, T, oT, ts', Heap.get?_push_of_some _ he, hz, hd, h1, h2, h3, Heap.get?_push_of_some _ h4, h5⟩
section
variable {X : Cx} {n : Str} {i : Nat} {body : List Stmt} {h₀ : ExceptHandler} {hds : List ExceptHandler} {l : List (List Value × (Addr → Value → Option Addr → TS))} {pos : Pos} {tb : WX → TS} {Wout : WX}
theorem ps_try_manyAs (hs : X.stack = X.env :: X.outer) (hf : X.env.frame = some X.env.locals) (hN : X.N.Nodup) (hi : X.N[i]? = some n) (hln : X.env.kindOf n = some .local) (tk : Takes X Wout)
    (hb : ∀ (W : WX) (pn : List (Addr × Obj)) (xe : Value → Shared → Prop), Takes (X.tr pn xe) W → PassesOwn (model X.prog X.w) X.A X.env xe → PSs (X.tr pn xe) body (tb W))
    (hh : HdsAs X n (h₀ :: hds) l) : PS X (.Try body (h₀ :: hds) [] [] pos) (fun D σ H => tb (wManyAs X.K Wout D i l) D σ H) := by
  refine ⟨fun pins s σ H D I h => ?_⟩
  have ok := I.ok
  have hfr : X.A.frames = some (X.env :: X.outer) := by rw [ok.frames, hs]
  have hloc : Loc X.env.scope n := .inl hln
  refine wpAny_Try_except ?_
  refine wpAny_mono ((hb (wManyAs X.K Wout D i l) (X.pn ++ pins) (fun e s₁ => wpAny (model X.prog X.w) X.A (noteFrame e X.env) (fun _ s₂ => wpAny (model X.prog X.w) X.A (setFlight e none) (fun _ s₃ =>
    wpAny (model X.prog X.w) X.A (handleBy e X.env (h₀ :: hds)) (SP X pins D) X.xe s₃) X.xe s₂) X.xe s₁) (fun u s' xx => ?_) PassesOwn.looking).run [] s σ H D (I.toTry _) h) (fun f s1 hsp => ?_) (fun e s1 he => he)
  · -- the catch
    obtain ⟨a, B, sI, pins', σ', H', cls, d, rfl, J', nb, up, sky, na, os, ag, w⟩ := xx
    have J : Inv X pins σ' H' sI := J'.ofTry ok
    have sky' : Sky B (X.env :: X.outer) a (Zc cls d) X.env.locals s'.heap := by rw [← hs]; exact sky
    show wpAny (model X.prog X.w) X.A (noteFrame (.ref a) X.env) _ _ _
    refine Sky.land Zc.steady hfr hf sky' fun h3 fl3 up3 => ?_
    have notFr : ∀ {h : Heap} {o : Obj} {vs : Array Value}, h.FunFrames B (X.env :: X.outer) → h.get? a = some o → o.data = .fields vs → a ∉ frs (X.env :: X.outer) := fun {h o vs} ff e dd hm => by
      obtain ⟨_, o', e', hnf⟩ := ff.mem hm
      rw [e] at e'; cases e'
      exact hnf _ dd
    obtain ⟨oe3, vs3, he3, hz3, hd3⟩ := fl3.there
    have nfr := notFr fl3.2.2.1 he3 hd3
    have nL : a ≠ X.env.locals := fun z => nfr (List.mem_filterMap.mpr ⟨X.env, List.mem_cons_self, by rw [hf, z]⟩)
    have nF : a ∉ X.fs := fun hm => by
      obtain ⟨e, he, q⟩ := List.mem_filterMap.mp hm
      exact nfr (List.mem_filterMap.mpr ⟨e, List.mem_cons_of_mem _ he, q⟩)
    have go : ∀ {hds' : List ExceptHandler} {l' : List (List Value × (Addr → Value → Option Addr → TS))}, HdsAs X n hds' l' → ∀ (h3 : Heap), HandSPX.FlyingZ B (X.env :: X.outer) a (Zc cls d) h3 → sI.heap.UpToSlots h3 → wManyAs X.K Wout D i l' cls d σ' H' →
        wpAny (model X.prog X.w) X.A (handleBy (.ref a) X.env hds') (SP X pins D) X.xe { s' with heap := h3 } := by
      intro hds' l' hk
      induction hk with
      | nil =>
        intro h3 fl3 up3 w
        refine wpAny_handleBy_nil ?_
        obtain ⟨k1, k2, k3, oe, vs, T, oT, ts', he, hz, hd, h1, hr⟩ := id fl3
        unfold PySem.passOn
        refine wpAny_bind (wpAny_field he hd h1 ?_)
        rw [if_neg (show ¬ ((Value.ref T == Value.none) = true) from by simp)]
        have fin : wpAny (model X.prog X.w) X.A (setFlight (.ref a) X.env.frame) (fun _ s4 => wpAny (model X.prog X.w) X.A (throw (.ref a) : Sem Flow) (SP X pins D) X.xe s4) X.xe { s' with heap := h3 } := by
          rw [hf]
          refine HandSPX.setFlight_upZ fl3 fun h4 hh4 up4 => wpAny_throw (tk _ _ ?_)
          exact ⟨a, B, sI, pins, σ', H', cls, d, rfl, J, nb, up3.trans up4, .inr (.inr (by rw [hs]; exact hh4)), na, os, ag, w⟩
        first
          | exact wpAny_bind (wpAny_pure (wpAny_bind fin))
          | exact wpAny_bind fin
      | @cons te cs ts b₀ suite pos' hds2 l2 hc hsu r ih =>
        intro h3 fl3 up3 w
        obtain ⟨b, hb1, hyes, hno⟩ := w
        have J3 : Inv X pins σ' H' { s' with heap := h3 } := J.landed nb fl3.1 up3 os ag
        obtain ⟨oe3, vs3, he3, hz3, hd3⟩ := fl3.there
        have S3 := J3.suite he3 hd3 na nL nF
        refine wpAny_handleBy_cons (codeAny_handlers_test ?_) (by intro q; cases q)
        have LT : PySem.W.Looks (model X.prog X.w) h3 (typeOf (.ref a)) cls := fun A Q E s k q => wpAny_typeOf_ref (k _ _ he3) (by rw [hz3.1]; exact q)
        have test : ∀ {x : Str} {c : Value} {np : Pos} {Q : Value → Shared → Prop} {E : Value → Shared → Prop}, L2.Names X x c → Q c { s' with heap := h3 } → wpAny (model X.prog X.w) (X.A.mark (some (.ref a))) (eval (.Name x np) X.env) Q E { s' with heap := h3 } := fun {x c np Q E} hc q => by
          obtain ⟨hg, hdbg, hm | ⟨hm, hv, hnn⟩⟩ := hc
          · exact ld_glob (X := X.suite a ((a, oe3) :: (X.pn ++ pins))) S3 hg hm q hdbg
          · exact ld_blt (X := X.suite a ((a, oe3) :: (X.pn ++ pins))) S3 hg hm hv q hnn hdbg
        have behind : ∀ (h4 : Heap), HandSPX.FlyingZ B (X.env :: X.outer) a (Zc cls d) h4 → sI.heap.UpToSlots h4 →
            (match (Except.ok (if b = true then Flow.brk else Flow.next) : Result) with
              | .ok .brk => codeAny (model X.prog X.w) (X.A.mark (some (.ref a))) (.handlers (.ref a) [.ExceptHandler none (some n) (b₀ :: suite) pos'] X.env) (fun r s₂ => match r with
                  | .ok f => wpAny (model X.prog X.w) X.A (do bindName X.env n .none; unbindBehindTheSuite X.env n pos') (fun _ s₃ => SP X pins D f s₃) X.xe s₂
                  | .error x => cameBackBy (model X.prog X.w) X.A X.env X.xe x s₂) { s' with heap := h4 }
              | .ok _ => wpAny (model X.prog X.w) X.A (handleBy (.ref a) X.env hds2) (SP X pins D) X.xe { s' with heap := h4 }
              | .error x => cameBackBy (model X.prog X.w) X.A X.env X.xe x { s' with heap := h4 }) := by
          intro h4 fl4 up4
          cases b with
          | true =>
            refine codeAny_handlers_suite_as ?_
            refine HandSPX.lands_againZ fl4 fun h5 fl5 up5 => ?_
            have J5 : Inv X pins σ' H' { s' with heap := h5 } := J.landed nb fl5.1 (up4.trans up5) os ag
            obtain ⟨oe5, vs5, he5, hz5, hd5⟩ := fl5.there
            have S5 := J5.suite he5 hd5 na nL nF
            refine store_ok (X := X.suite a ((a, oe5) :: (X.pn ++ pins))) (v := .ref a) S5 hN hi hloc rfl (fun s5 S5 => ?_) (.inr hln)
            refine wpAny_mono ((hsu a oe5 cls d (X.pn ++ pins) hz5 ⟨_, hd5⟩).run [] s5 _ H' _ S5 (hyes rfl a na (by have h1 := J.len; have h2 := (List.getElem?_eq_some_iff.mp hi).1; omega))) (fun f s6 hsp => ?_) (fun _ _ z => False.elim z)
            have end_ : ∀ {σ6 : L2.St} {H6 : Hp} {Q : Shared → Prop}, Inv (X.suite a ((a, oe5) :: (X.pn ++ pins))) [] σ6 H6 s6 → (∀ s7, Inv X pins (σ6.set i none) H6 s7 → Q s7) →
                wpAny (model X.prog X.w) X.A (do bindName X.env n .none; unbindBehindTheSuite X.env n pos') (fun _ s7 => Q s7) X.xe s6 := fun {σ6 H6 Q} S6 hq => gone_ok (S6.unsuite ok) hN hi hln hq
            cases f with
            | next =>
              obtain ⟨σ6, H6, S6, q6⟩ := hsp
              exact end_ S6 fun s7 J7 => ⟨_, _, J7, q6⟩
            | brk =>
              obtain ⟨σ6, H6, S6, q6⟩ := hsp
              exact end_ S6 fun s7 J7 => ⟨_, _, J7, q6⟩
            | cont =>
              obtain ⟨σ6, H6, S6, q6⟩ := hsp
              exact end_ S6 fun s7 J7 => ⟨_, _, J7, q6⟩
            | ret u =>
              obtain ⟨v6, σ6, H6, S6, r6, q6⟩ := hsp
              exact end_ S6 fun s7 J7 => ⟨_, _, _, J7, r6, q6⟩
          | false =>
            show wpAny _ X.A (handleBy (.ref a) X.env hds2) _ _ _
            exact ih h4 fl4 up4 (hno rfl)
        cases hc with
        | @one x c np hc =>
          obtain ⟨b1, d1, e1, e2, e3⟩ := PySem.W.exmAny_cons hb1
          have e2' : some false = some d1 := e2
          cases e2'
          rw [Bool.or_false] at e3
          subst e3
          have LM := PySem.W.exm_one (M := model X.prog X.w) (J3.kIn) LT e1
          exact test hc (LM.here (behind h3 fl3 up3))
        | @two x1 x2 c1 c2 p1 p2 tp kk g1 g2 =>
          refine Tuple_ (spliced_more (test g1 (spliced_more (test g2 (spliced_none ?_)))))
          refine wpAny_newObj_type ?_
          have kp : ∀ b o, h3.get? b = some o → (h3.push { cls := .type "tuple", dict := none, data := .seq [c1, c2].toArray }).get? b = some o := fun b o e => Heap.get?_push_of_some _ e
          have hp : (h3.push { cls := .type "tuple", dict := none, data := .seq [c1, c2].toArray }).get? h3.objs.size = some { cls := .type "tuple", data := .seq [c1, c2].toArray } := Heap.get?_push_size _ rfl
          have LM := PySem.W.exm_tup2 (M := model X.prog X.w) (J3.kIn.keeps kp) (LT.keeps kp) hp hb1
          exact LM.here (behind _ (flying_push fl3 _) (up3.trans (Heap.UpToSlots.of_keeps kp)))
    exact go hh h3 fl3 (up.trans up3) w
  · cases f with
    | next =>
      obtain ⟨σ', H', J', q⟩ := hsp
      exact wpAny_execs_nil ⟨σ', H', J'.ofTry ok, q⟩
    | brk =>
      obtain ⟨σ', H', J', q⟩ := hsp
      exact ⟨σ', H', J'.ofTry ok, q⟩
    | cont =>
      obtain ⟨σ', H', J', q⟩ := hsp
      exact ⟨σ', H', J'.ofTry ok, q⟩
    | ret u =>
      obtain ⟨v, σ', H', J', r, q⟩ := hsp
      exact ⟨v, σ', H', J'.ofTry ok, r, q⟩
end
end RK
namespace RK
open PySem PySem.Spec PyProof.Rows L2 L2H
abbrev SpP := Addr × Obj → Sp
structure FnP (P : Program) (w : World) (K : PySem.W.Frag) (mg : Str → Option Value) (base : Heap) (CX : CXT) (k : Nat) (f : Addr) (fd : FuncData) (ps : List Str) (sp : SpP) : Prop where
  len : ∀ p vs H Q E, sp p vs H Q E → vs.length = ps.length
  run : ∀ (A : Around) (outer : List Env) (s : Shared) (H : Hp) (args : Args) (us : List Value) (vs : List V) (Q : VK) (E : XK) (p : Addr × Obj), RoomH k A → PinOk outer H s p → Env0 P w K mg base A outer s H → BindsTo s fd args (ps.zip us) → Vals vs us → sp p vs H Q E →
    codeAny (model P w) A (.call (.ref f) args) (CR CX outer P w H s Q E) s
theorem fn_ofP {CX : CXT} {P : Program} {w : World} {K : PySem.W.Frag} {mg : Str → Option Value} {base : Heap} {k : Nat} {f : Addr} {name qual : Str} {params : Arguments} {body : List Stmt} {scope : Scope} {dV kV doc pm cdv ct oc : Value} {an od : Option Addr}
    {osl : Array (Option Value)} {N ps : List Str} {sp : SpP} (lk : K.lookup f = some ⟨oc, od, .func (PySem.W.fnOf name qual params body scope dV kV doc pm an cdv ct), osl⟩) (hcd : PySem.W.codeIn K cdv qual = true) (S : FnScope N ps scope)
    (len : ∀ p vs H Q E, sp p vs H Q E → vs.length = ps.length)
    (hbody : ∀ (A : Around) (outer : List Env) (s : Shared) (H : Hp) (vs : List V) (Q : VK) (E : XK) (p : Addr × Obj), RoomH k (A.deeper (envOfC qual scope s.heap.objs.size f cdv)) → sp p vs H Q E →
      ∃ t, PSs (cxH CX P w K mg base N qual scope f cdv A outer s H E p) body t ∧ t { nx := fun _ H' => Q .non H', rt := Q } (L2.start N vs) H) :
    FnP P w K mg base CX (k + 1) f (PySem.W.fnOf name qual params body scope dV kV doc pm an cdv ct) ps sp := by
  refine ⟨len, fun A outer s H args us vs Q E p hr hpin e0 hb r hsp => ?_⟩
  have hl := len _ _ _ _ _ hsp
  have KX : K.In s.heap := e0.mod.kin.keeps fun b o e => (e0.bs b o e).1
  have lim : s.heap.NoLimit := e0.mod.nolimit.keeps fun b o e => (e0.bs b o e).1
  have hkind : ∀ y ∈ ps.zip us, scope.names.lookup y.1 = some .local ∨ (scope.names.lookup y.1 = some .cell ∧ ((cellsFrom (s.heap.objs.size + 1) scope.names []).lookup y.1).isSome = true) := fun ⟨n, v⟩ hy => by
    rcases S.par n (List.of_mem_zip hy).1 with q | q
    · exact .inl q
    · exact .inr ⟨q, PySem.W.cellsFrom_some _ _ _ (.inl q)⟩
  refine codeAny_call_function hr.depth (KX _ _ lk) rfl S.co S.gen rfl (PySem.W.codeRec_of KX hcd) (hb _ _ _ _ ?_)
  refine wpAny_newFunctionEnv_cells S.kind hkind fun env he s1 x => ?_
  subst he
  refine ⟨lim.keeps x.toInCall.keep, codeAny_func ?_⟩
  obtain ⟨t, ht, hq⟩ := hbody A outer s H vs Q E p (hr.deeper _) hsp
  have I : Inv (cxH CX P w K mg base N qual scope f cdv A outer s H E p) [] (L2.start N vs) H s1 := inv_startH S hpin e0 hl r x
  refine wpAny_mono (ht.run [] s1 (L2.start N vs) H _ I hq) (fun fl s' hs => ?_) fun e s' hs => hs
  have fin : ∀ {σ' : L2.St} {H' : Hp} {v : V} {u : Value}, Inv (cxH CX P w K mg base N qual scope f cdv A outer s H E p) [] σ' H' s' → RelV v u → Q v H' → CE outer P w H s Q u s' :=
    fun {σ' H' v u} J rv q => ⟨v, H', J.os, J.bare, J.base, J.hok, rv, q⟩
  cases fl with
  | ret u =>
    obtain ⟨v, σ', H', J, rv, q⟩ := hs
    exact fin J rv q
  | next =>
    obtain ⟨σ', H', J, q⟩ := hs
    exact fin (v := V.non) (u := Value.none) J rfl q
  | brk =>
    obtain ⟨_, _, _, q⟩ := hs
    exact False.elim q
  | cont =>
    obtain ⟨_, _, _, q⟩ := hs
    exact False.elim q
section
variable {X : Cx} {CX : CXT} {k : Nat} {f C : Addr} {fd : FuncData} {ps : List Str} {sp : SpP} {E : XK} {x m : Str} {q pos apos : Pos} {e o : Expr} {es : List Expr} {ta : TE} {t : TA} {p : Addr × Obj}
theorem run_fnP {pins : List (Addr × Obj)} {σ : L2.St} {H : Hp} {s : Shared} {Q : VK} {us : List Value} {vs : List V} (F : FnP X.prog X.w X.K X.mg X.base CX k f fd ps sp) (hr : RoomH k X.A) (hp : p ∈ X.pn) (hb : Binds X.K fd ps []) (hx : Passes CX X E)
    (I : Inv X pins σ H s) (r : Vals vs us) (h : sp p vs H Q E) : wpAny (model X.prog X.w) X.A (call (.ref f) us) (EP X pins σ Q) X.xe s := by
  have hl : us.length = ps.length := by rw [← r.length]; exact F.len _ _ _ _ _ h
  have b := hb s us I.kIn (by rw [List.append_nil]; exact hl)
  rw [List.append_nil] at b
  have P1 := I.pin p (List.mem_append_left _ hp)
  have hpin : PinOk X.stack H s p := ⟨P1.1, P1.2.1, fun hm => (List.mem_cons.mp (I.stkSub p.1 hm)).elim P1.2.2.1 P1.2.2.2.1, P1.2.2.2.2⟩
  refine wpAny_call (codeAny_mono (F.run X.A X.stack s H ⟨us, []⟩ us vs Q E p hr hpin I.env0 b r h) fun r s' hq => ?_)
  cases r with
  | error e => exact hx pins σ H s e s' I hq
  | ok fl =>
    cases fl with
    | ret u => exact I.after hq
    | next => exact False.elim hq
    | brk => exact False.elim hq
    | cont => exact False.elim hq
end
def tXp (K : PySem.W.Frag) (p : Addr × Obj) (f : Str) (te : TE) : TE := fun σ H Q => te σ H fun x H1 => x = .ref p.1 ∧ (∃ vs, p.2.data = .fields vs) ∧ ∃ (C dd : Addr) (fs : List (Str × V)) (v : V), Zc (.ref C) (some dd) p.2 ∧ XfC K C ∧ PySem.W.findIn K (.ref C) f = some none ∧ H1 dd = some (.xd fs) ∧ fs.lookup f = some v ∧ Q v H1
theorem pe_xp {X : Cx} {p : Addr × Obj} {e : Expr} {te : TE} {pos : Pos} {n : Str} (hp : p ∈ X.pn) (he : PE X e te) (hb : attributeBase e n X.env (eval e X.env) = eval e X.env := by rfl) : PE X (.Attribute e n pos) (tXp X.K p n te) := by
  refine ⟨fun pins s σ H Q I h => ?_⟩
  refine attr_of hb (thn (he.run pins s σ H _ I h) fun u s1 hh => ?_)
  obtain ⟨x, H1, I1, rx, ex, hf, C, dd, fs, v, hz, T, hno, ea, l, q⟩ := hh
  subst ex
  obtain rfl : u = Value.ref p.1 := rx
  obtain ⟨ha, _⟩ := I1.pin p (List.mem_append_left _ hp)
  obtain ⟨vs, hd⟩ := hf
  have hx : ObjOk X.prog X.w H1 s1.heap dd (.xd fs) := I1.hok dd _ ea
  obtain ⟨mA, hns, hr⟩ := hx
  obtain ⟨od, ho, hl⟩ := lookIn_ns hns
  obtain ⟨u, hu, ru⟩ := RelO.some_of (v := v) (o := mA n) (by rw [← l]; exact hr n)
  have J : PySem.W.InstAt s1.heap p.1 p.2 C (some od) := ⟨ha, hz.1, by unfold PySem.W.notCls; rw [hd] <;> rfl, by rw [hz.2]; exact ho⟩
  exact HandSPX.exc_get I1.kIn J T.ga T.gg T.exC (PySem.W.findObj_own T.hdC hno rfl (by rw [hl, hu])) (handed_of ru) ⟨v, H1, I1.tok _, ru, q⟩
def tCFun (C : Addr) (sp : Sp) (E : XK) (ta : TE) (t : TA) : TE := fun σ H Q => ta σ H fun x H1 => x = .ref C ∧ t σ H1 fun vs H2 => sp vs H2 Q E
theorem pe_cfun {X : Cx} {CX : CXT} {k : Nat} {f C : Addr} {fd : FuncData} {ps : List Str} {sp : Sp} {E : XK} {m : Str} {pos apos : Pos} {e o : Expr} {es : List Expr} {ta : TE} {t : TA} {mc : Value} {pl : Sem Bool}
    (he : PE X o ta) (r : ClX.CRead X.K C mc) (at_ : PySem.W.findCls X.K (.ref C) mc m = some (.val (.ref f))) (hk : PySem.W.keepIn X.K (.ref f) = true) (F : FnOk X.prog X.w X.K X.mg X.base CX k f fd ps sp) (hr : Room k X.A) (hb : Binds X.K fd ps []) (hx : Passes CX X E) (ha : PA X (e :: es) t)
    (hst : starEach (e :: es) X.env = (false, eval e X.env) :: starEach es X.env := by rfl) (hpl : (backTo pos (starEach es X.env)).any (·.1) = false := by rfl)
    (ht : eval (.Call (.Attribute o m apos) (e :: es) [] pos) X.env = (do
      let ov ← eval o X.env
      standAt apos.atName
      let (f, first) ← holding [ov] (getMethod ov m pl)
      callWith pos f first (backTo pos (starEach (e :: es) X.env)) (backToKw pos (keywordEach [] X.env))) := by rfl) :
    PE X (.Call (.Attribute o m apos) (e :: es) [] pos) (tCFun C sp E ta t) := by
  refine ⟨fun pins s σ H Q I h => ?_⟩
  refine PySem.W.methodCall_KW (pl := pl) (thn (he.run pins s σ H _ I h) fun u s1 ⟨x, H1, I1, rx, ex, q⟩ => ?_) ht
  subst ex
  obtain rfl : u = Value.ref C := rx
  refine PySem.W.method_cls I1.kIn r.ga (ClX.getcval_ok (v := .ref f) I1 r ⟨at_, rfl⟩ fun s2 I2 => ?_)
  refine PySem.W.callWith_K (first := []) (h₀ := X.base) I.ok.mod.kin hk (thn (ha.run pos pins s2 σ H1 _ I2 q) fun us s3 ⟨vs, H2, I3, rv, q2⟩ => ⟨I3.kIn, ?_⟩) hst hpl
  exact run_fn (dvs := []) (ds := []) F hr hb .nil hx I3 rv (by rw [List.append_nil]; exact q2)
theorem okP {P : Program} {w : World} {K : PySem.W.Frag} {mg : Str → Option Value} {base : Heap} {x qual : Str} {st : Stmt} {f : Addr} {fd : FuncData} {N ps : List Str} {k : Nat} {sp : SpP} (F : Fun K x qual st f fd) (S : FnScope N ps (defScope st)) (len : ∀ p vs H Q E, sp p vs H Q E → vs.length = ps.length)
    (hbody : ∀ (cdv : Value) (A : Around) (outer : List Env) (s : Shared) (H : Hp) (vs : List V) (Q : VK) (E : XK) (p : Addr × Obj), RoomH k (A.deeper (envOfC qual (defScope st) s.heap.objs.size f cdv)) → sp p vs H Q E →
      ∃ t, PSs (cxH CX0 P w K mg base N qual (defScope st) f cdv A outer s H E p) (defBody st) t ∧ t { nx := fun _ H' => Q .non H', rt := Q } (L2.start N vs) H) : FnP P w K mg base CX0 (k + 1) f fd ps sp := by
  obtain ⟨oc, od, kV, doc, pm, an, cdv, ct, osl, rfl, lk, hcd⟩ := F.ex
  exact fn_ofP lk hcd S len fun A outer s H vs Q E p hr hsp => hbody cdv A outer s H vs Q E p hr hsp
end RK
namespace PySem
namespace OEG
open PySem.W PySem.Calls PyProof.Rows PySem.HandSPX
structure BD where
  B : String
  newId : String
  initId : String
  bm : List Value
structure BD.Ok (b : BD) : Prop where
  F : ExcBaseFacts b.B b.newId b.initId b.bm
  S : StoreFacts b.B b.bm "object.__setattr__" "object"
theorem BD.Ok.ne {b : BD} (o : b.Ok) : b.bm ≠ [] := fun e => by
  have := o.S.hasOwner
  rw [e] at this
  cases this
theorem tail_ne {bmB l : List Value} (n : bmB ≠ []) (e : excTail bmB l = true) : l.isEmpty = false := by
  cases l with
  | nil => exact absurd (beq_iff_eq.mp (show ([] == bmB) = true from e)).symm n
  | cons _ _ => rfl
section
open Builtin Builtin.ObjectAttr
variable {prog : Program} {w : World} {A : Around} {E : Value → Shared → Prop} {R : Result → Shared → Prop} {hp : Heap} {g : Array GenState} {d : Drawn} {t : Nat} {os : OsState}
theorem osa_new {b : BD} {K : W.Frag} {name : Str} {tk : Tok} {v : Value} {x C : Addr} {fv : Array Value} {cd : ClassData} (ob : b.Ok)
    (X : K.In hp) (hx : hp.get? x = some { cls := .ref C, data := .fields fv }) (hcd : W.clsIn K C = some cd) (hm : excTail b.bm cd.mro = true) (hh : cd.hasDict = true) (ha : W.findIn K (.ref C) name = some none)
    (hq : ∀ h' tk' dx, (∀ b o, b ≠ x → hp.get? b = some o → h'.get? b = some o) → hp.objs.size ≤ dx → dx ≠ x → h'.get? x = some { cls := .ref C, dict := some dx, data := .fields fv } →
      h'.Ns1 dx (fun y => if y = name then some v else none) → R (.ok (.ret .none)) ⟨h', g, d, tk', os⟩) :
    codeAny (model prog w) A (.call (.builtin "object.__setattr__") ⟨[.ref x, .str name tk, v], []⟩) R ⟨hp, g, d, t, os⟩ := by
  have I : W.InstAt hp x { cls := .ref C, data := .fields fv } C none := ⟨hx, rfl, rfl, trivial⟩
  have SF := F.store_object
  have ne := tail_ne ob.ne hm
  have hob : cd.mro.contains (.type "object") = true := (excTail_contains "object" _ hm).trans ob.S.hasOwner
  have hxs : x ≠ hp.objs.size := Nat.ne_of_lt (Heap.lt_size hx)
  have sub : W.Looks (model prog w) hp (isInstance (.ref x) (.type "object")) true := I.type.andThen (W.looks_mroIn X (by unfold W.mroIn; rw [hcd, Option.bind_some, if_neg (by rw [ne]; decide), hob]))
  refine codeAny_call_builtin SF.slot.plain SF.entry (@W.check_slot (model prog w) _ _ ⟨hp, g, d, t, os⟩ "object.__setattr__" "object" "__setattr__" (.ref x) [.str name tk, v] [] _ SF.kind SF.split sub (SF.args (.ref x) (.str name tk) v) ?_)
  have hmr : W.Looks (model prog w) hp (mroOf (.ref C)) cd.mro := (W.looks_clsIn X hcd).andThen .now
  have L3 : W.Looks (model prog w) hp (storeTaker? none) none := .now
  have hcls : W.Looks (model prog w) hp (classData C) cd := W.looks_clsIn X hcd
  rw [W.osa_eq, refuse_eq]
  refine wpAny_bind (wpAny_bind (I.type.at (wpAny_bind (hmr.at ?_))))
  rw [excTail_pass _ (ob.S.passes _) _ hm]
  refine wpAny_pure (wpAny_bind (I.type.at (wpAny_bind ((W.looks_findIn X ha).at (wpAny_bind (L3.at ?_))))))
  show wpAny _ _ (storeInOwnDict (.ref x) (.ref C) (.str name tk) name v false) _ _ _
  obtain ⟨nm, bs, mro, ns, qn, hd, sn, sb, ab, col, del⟩ := cd
  dsimp only at hh
  subst hh
  unfold storeInOwnDict ownDictForStores
  repeat (first | with_reducible refine store_in_new ?_ ?_ | with_reducible refine wpAny_loadPart_at hx ?_ | with_reducible refine hcls.at ?_ | wp_step)
  · exact ⟨_, #[], _, (Heap.get?_update_ne _ _ _ _ hxs.symm).trans (Heap.get?_push_at rfl rfl), rfl, fun e he => absurd he (by simp), fun _ => rfl⟩
  · intro h' tk' hn' hs
    have hx₁ : (hp.push { cls := .type "dict", data := .dict #[] }).get? x = some { cls := .ref C, data := .fields fv } := Heap.get?_push_of_some _ hx
    refine hq h' tk' hp.objs.size (fun b o hb ho => ?_) (Nat.le_refl _) hxs.symm ?_ hn'
    · exact (hs.2 b (Nat.ne_of_lt (Heap.lt_size ho))).trans ((Heap.get?_update_ne _ _ _ _ hb).trans (Heap.get?_push_of_some _ ho))
    · exact (hs.2 x hxs).trans (Heap.get?_update_self _ hx₁ rfl)
theorem osa_old {b : BD} {K : W.Frag} {name : Str} {tk : Tok} {v : Value} {x C dx : Addr} {fv : Array Value} {cd : ClassData} {m0 : Str → Option Value} {nl : List Str} (ob : b.Ok)
    (X : K.In hp) (hx : hp.get? x = some { cls := .ref C, dict := some dx, data := .fields fv }) (hns : hp.Ns1 dx m0) (hw : Within m0 nl) (hz : nl.length ≤ 1000) (hcd : W.clsIn K C = some cd) (hm : excTail b.bm cd.mro = true) (hh : cd.hasDict = true)
    (ha : W.findIn K (.ref C) name = some none)
    (hq : ∀ h' tk', (∀ b o, b ≠ dx → hp.get? b = some o → h'.get? b = some o) → h'.Ns1 dx (fun y => if y = name then some v else m0 y) → R (.ok (.ret .none)) ⟨h', g, d, tk', os⟩) :
    codeAny (model prog w) A (.call (.builtin "object.__setattr__") ⟨[.ref x, .str name tk, v], []⟩) R ⟨hp, g, d, t, os⟩ := by
  obtain ⟨oD, esD, epD, hoD, hdD, _⟩ := hns.count hw
  have I : W.InstAt hp x { cls := .ref C, dict := some dx, data := .fields fv } C (some oD) := ⟨hx, rfl, rfl, hoD⟩
  have SF := F.store_object
  have ne := tail_ne ob.ne hm
  have hob : cd.mro.contains (.type "object") = true := (excTail_contains "object" _ hm).trans ob.S.hasOwner
  have sub : W.Looks (model prog w) hp (isInstance (.ref x) (.type "object")) true := I.type.andThen (W.looks_mroIn X (by unfold W.mroIn; rw [hcd, Option.bind_some, if_neg (by rw [ne]; decide), hob]))
  refine codeAny_call_builtin SF.slot.plain SF.entry (@W.check_slot (model prog w) _ _ ⟨hp, g, d, t, os⟩ "object.__setattr__" "object" "__setattr__" (.ref x) [.str name tk, v] [] _ SF.kind SF.split sub (SF.args (.ref x) (.str name tk) v) ?_)
  have hmr : W.Looks (model prog w) hp (mroOf (.ref C)) cd.mro := (W.looks_clsIn X hcd).andThen .now
  have L3 : W.Looks (model prog w) hp (storeTaker? none) none := .now
  have hcls : W.Looks (model prog w) hp (classData C) cd := W.looks_clsIn X hcd
  rw [W.osa_eq, refuse_eq]
  refine wpAny_bind (wpAny_bind (I.type.at (wpAny_bind (hmr.at ?_))))
  rw [excTail_pass _ (ob.S.passes _) _ hm]
  refine wpAny_pure (wpAny_bind (I.type.at (wpAny_bind ((W.looks_findIn X ha).at (wpAny_bind (L3.at ?_))))))
  show wpAny _ _ (storeInOwnDict (.ref x) (.ref C) (.str name tk) name v false) _ _ _
  obtain ⟨nm, bs, mro, ns, qn, hd, sn, sb, ab, col, del⟩ := cd
  dsimp only at hh
  subst hh
  unfold storeInOwnDict ownDictForStores
  repeat (first | with_reducible refine OEX.store_in_old hns hw hz ?_ | with_reducible refine wpAny_loadPart_at hx ?_ | with_reducible refine hcls.at ?_ | wp_step)
  intro h' tk' hn' hs
  exact hq h' tk' (fun b o hb ho => (hs.2 b hb).trans ho) hn'
end
abbrev bdV : BD := ⟨"ValueError", "ValueError.__new__", "ValueError.__init__", [.type "ValueError", .type "Exception", .type "BaseException", .type "object"]⟩
abbrev bdL : BD := ⟨"LookupError", "LookupError.__new__", "LookupError.__init__", [.type "LookupError", .type "Exception", .type "BaseException", .type "object"]⟩
abbrev bdI : BD := ⟨"IndexError", "IndexError.__new__", "IndexError.__init__", [.type "IndexError", .type "LookupError", .type "Exception", .type "BaseException", .type "object"]⟩
theorem okV : bdV.Ok := ⟨F.excBase_ValueError, F.store_ValueError⟩
theorem okL : bdL.Ok := ⟨F.excBase_LookupError, F.store_LookupError⟩
theorem okI : bdI.Ok := ⟨F.excBase_IndexError, F.store_IndexError⟩
theorem cls_of {K : W.Frag} {C : Addr} {bmB : List Value} {newId : String} (q : excInitIn K C bmB newId = true) : ∃ nm N qn bs bm hdct sn sub ab col dd k0 k1 k2 k3 k5,
    K.lookup C = some (excClassObj nm qn C N bs bm hdct sn sub ab col dd k0 k1 k2 k3 k5 newId) ∧ excTail bmB bm = true := by
  unfold excInitIn at q
  split at q
  · rename_i dd cd sl ho
    split at q
    · rename_i C' bm k0 k1 k2 k3 n k5 hm hs
      simp only [Bool.and_eq_true, beq_iff_eq, Bool.not_eq_true'] at q
      obtain ⟨⟨⟨rfl, rfl⟩, hdel⟩, ht⟩ := q
      obtain ⟨nm, bs, mro, ns, qn, hd, sn, sub, ab, col, del⟩ := cd
      dsimp only at hm hdel
      subst hm hdel
      have hsl : sl = #[k0, k1, k2, k3, some (.builtin n), k5] := by
        obtain ⟨l⟩ := sl
        simp only at hs
        rw [hs]
      subst hsl
      exact ⟨nm, ns, qn, bs, bm, hd, sn, sub, ab, col, dd, k0, k1, k2, k3, k5, ho, ht⟩
    · cases q
  · cases q
end OEG
end PySem
namespace RK
open PySem PySem.Spec PyProof.Rows L2 PySem.OEG
structure OexG (K : PySem.W.Frag) (C : Addr) (b : BD) : Prop where
  ob : b.Ok
  ini : PySem.W.excInitIn K C b.bm b.newId = true
  hd : PySem.W.hasDictIn K C = true
  sa : PySem.W.findIn K (.ref C) "__setattr__" = some (some (.builtin "object.__setattr__"))
  exC : PySem.W.subIn K (.ref C) (.type "BaseException") = some true
  tyC : PySem.W.typeIn K (.ref C) = some (.type "type")
  kC : PySem.W.keepIn K (.ref C) = true
theorem OexG.cls {K : PySem.W.Frag} {C : Addr} {b : BD} (T : OexG K C b) : ∃ nm q N bs bm sn sub ab col dd k0 k1 k2 k3 k5, K.lookup C = some (excClassObj nm q C N bs bm true sn sub ab col dd k0 k1 k2 k3 k5 b.newId) ∧ PySem.W.excTail b.bm bm = true := by
  obtain ⟨nm, N, qn, bs, bm, hdct, sn, sub, ab, col, dd, k0, k1, k2, k3, k5, hC, ht⟩ := cls_of T.ini
  have h := T.hd
  have e : hdct = true := by
    unfold PySem.W.hasDictIn PySem.W.clsIn at h
    rw [hC] at h
    simpa using h
  subst e
  exact ⟨nm, qn, N, bs, bm, sn, sub, ab, col, dd, k0, k1, k2, k3, k5, hC, ht⟩
section
variable {X : Cx} {pins : List (Addr × Obj)} {σ : L2.St} {H : Hp} {s : Shared} {a C dx : Addr} {f : Str} {y : V} {u : Value} {fs : List (Str × V)} {Q : Unit → Shared → Prop} {E : Value → Shared → Prop} {A : Around} {b : BD}
theorem ost_new (T : OexG X.K C b) (I : Inv X pins σ H s) (e : H a = some (exo a C none)) (hno : PySem.W.findIn X.K (.ref C) f = some none) (ry : RelV y u)
    (h : ∀ dx s', H dx = none → dx ≠ a → Inv X pins σ (upd (upd H dx (exd dx [(f, y)])) a (exo a C (some dx))) s' → Q () s') : wpAny (model X.prog X.w) A (setAttr (.ref a) f u) Q E s := by
  obtain ⟨nm, q, N, bs, bm, sn, sub, ab, col, dd, k0, k1, k2, k3, k5, hC, hbm⟩ := T.cls
  have hcl : PySem.W.clsIn X.K C = some { name := nm, bases := bs, mro := .ref C :: bm, ns := N, qualname := q, hasDict := true, slotNames := sn, subclasses := sub, abstract := ab, collection := col, hasDel := false } := by unfold PySem.W.clsIn; rw [hC] <;> rfl
  obtain ⟨t1, ho⟩ := exo_at I.hok e
  obtain ⟨hp, g, d, t, os⟩ := s
  refine PySem.W.set_plain I.kIn (ox := { cls := .ref C, dict := none, data := .fields #[.ref t1, .none, .none, .none, .bool false, .none] }) (od := none) ⟨ho, rfl, rfl, trivial⟩ T.sa ?_
  refine PySem.OEG.osa_new T.ob I.kIn ho hcl (show PySem.W.excTail b.bm (.ref C :: bm) = true from hbm) rfl hno (fun h' tk' dx k dn dne hx hn => ?_)
  have hnd : H dx = none := I.hok.fresh dn
  have nd : ∀ {b : Addr} {o : Obj}, hp.get? b = some o → b ≠ dx := fun {b o} q => Nat.ne_of_lt (Nat.lt_of_lt_of_le (Heap.lt_size q) dn)
  have na : ∀ {b : Addr}, H b = none → b ≠ a := fun {b} n z => by
    rw [z, e] at n
    cases n
  have Un1 : Un X.fs [] H (upd (upd H dx (exd dx [(f, y)])) a (exo a C (some dx))) hp h' := {
    keep := fun b o q n _ _ => k b o (na n) q
    slot := fun b o q n _ _ => ⟨o.slots, k b o (na n) q⟩
    free := fun b o q n _ => by rw [upd_ne (na n), upd_ne (nd q)]; exact n
    there := fun b o q _ => by
      by_cases hb : b = a
      · exact ⟨_, by rw [hb]; exact hx⟩
      · exact ⟨o, k b o hb q⟩
    tups := fun b xs q => by rw [upd_ne (at_ne e q exo_tup), upd_ne (ne_of_none q hnd)]; exact q
    frzs := fun b o v q => by rw [upd_ne (at_ne e q exo_frz), upd_ne (ne_of_none q hnd)]; exact q
    tbls := fun b ps q => ⟨#[], by rw [upd_ne (at_ne e q exo_tbl), upd_ne (ne_of_none q hnd), q]; simp⟩ }
  refine h dx _ hnd dne (I.un (t' := tk') Un1 fun b o q => ?_)
  by_cases hb : b = a
  · subst hb
    rw [upd_same] at q
    cases q
    exact exo_ok hx
  · rw [upd_ne hb] at q
    by_cases hd : b = dx
    · subst hd
      rw [upd_same] at q
      cases q
      exact exd_ok hn (relO_put (fs := []) ry fun g => True.intro)
    · rw [upd_ne hd] at q
      exact (I.hok b o q).stay (fun c v hc z => k c v (by
          rcases hc with hc | hc
          · rw [hc]
            exact hb
          · exact at_ne e hc exo_own) z)
        (fun c hc => by rw [upd_ne (at_ne e hc exo_own), upd_ne (ne_of_none hc hnd)]; exact hc) (fun c xs hc => by rw [upd_ne (at_ne e hc exo_tup), upd_ne (ne_of_none hc hnd)]; exact hc)
theorem ost_old (T : OexG X.K C b) (I : Inv X pins σ H s) (e : H a = some (exo a C (some dx))) (ed : H dx = some (exd dx fs)) (hl : fs.length ≤ 900) (hno : PySem.W.findIn X.K (.ref C) f = some none) (ry : RelV y u)
    (h : ∀ s', Inv X pins σ (upd H dx (exd dx ((f, y) :: fs))) s' → Q () s') : wpAny (model X.prog X.w) A (setAttr (.ref a) f u) Q E s := by
  obtain ⟨nm, q, N, bs, bm, sn, sub, ab, col, dd, k0, k1, k2, k3, k5, hC, hbm⟩ := T.cls
  have hcl : PySem.W.clsIn X.K C = some { name := nm, bases := bs, mro := .ref C :: bm, ns := N, qualname := q, hasDict := true, slotNames := sn, subclasses := sub, abstract := ab, collection := col, hasDel := false } := by unfold PySem.W.clsIn; rw [hC] <;> rfl
  obtain ⟨t1, ho⟩ := exo_at I.hok e
  obtain ⟨mA, hns, rel⟩ := exd_at I.hok ed
  have hw := within_of rel
  obtain ⟨hp, g, d, t, os⟩ := s
  obtain ⟨oD, _, _, hoD, _, _⟩ := hns.count hw
  refine PySem.W.set_plain I.kIn (ox := { cls := .ref C, dict := some dx, data := .fields #[.ref t1, .none, .none, .none, .bool false, .none] }) (od := some oD) ⟨ho, rfl, rfl, hoD⟩ T.sa ?_
  refine PySem.OEG.osa_old T.ob I.kIn ho hns hw (by rw [List.length_map]; omega) hcl (show PySem.W.excTail b.bm (.ref C :: bm) = true from hbm) rfl hno (fun h' tk' k hn => ?_)
  have hd : ∃ o, h'.get? dx = some o := by
    obtain ⟨o, _, _, e', _⟩ := hn
    exact ⟨o, e'⟩
  exact h _ (I.write (t' := tk') (x := dx) (e := dx) (o := exd dx ((f, y) :: fs)) (by rw [ed]; exact True.intro) (.inl rfl) k hd (exd_ok hn (relO_put ry rel)))
theorem oinit_ok {us : List Value} {Q : Value → Shared → Prop} (T : OexG X.K C b) (I : Inv X pins σ H s) (e : H a = some (exo a C none)) (hl : us.length ≤ sizeLine) (h : ∀ s', Inv X pins σ H s' → Q .none s') :
    wpAny (model X.prog X.w) A (call (.builtin b.initId) (.ref a :: us)) Q E s := by
  obtain ⟨nm, q, N, bs, bm, sn, sub, ab, col, dd, k0, k1, k2, k3, k5, hC, hbm⟩ := T.cls
  obtain ⟨t1, ho⟩ := exo_at I.hok e
  obtain ⟨hp, g, d, t, os⟩ := s
  refine wpAny_call (PySem.HandSPX.init_base T.ob.F (fun Y => PySem.W.excTail_contains Y bm hbm) (I.kIn _ _ hC) ho hl fun h' t2 k hx => ?_)
  have J := I.write (t' := t) (x := a) (e := a) (o := exo a C none) (by rw [e]; exact True.intro) (.inl rfl) k ⟨_, hx⟩ (exo_ok hx)
  have eu : upd H a (exo a C none) = H := by
    funext b
    by_cases hb : b = a
    · rw [hb, upd_same, e]
    · rw [upd_ne hb]
  rw [eu] at J
  exact h _ J
end
def tBi (K : PySem.W.Frag) (b : BD) (ta : TA) : TE := fun σ H Q => ta σ H fun vs H1 => ∃ (a C : Addr) (ws : List V), vs = .ref a :: ws ∧ ws.length ≤ 1000 ∧ OexG K C b ∧ H1 a = some (exo a C none) ∧ Q .non H1
def tOsg (K : PySem.W.Frag) (f : Str) (to te : TE) : TS := fun D σ H => te σ H fun y H1 => to σ H1 fun x H2 => ∃ (a C : Addr) (b : BD), x = .ref a ∧ OexG K C b ∧ PySem.W.findIn K (.ref C) f = some none ∧
  ((H2 a = some (exo a C none) ∧ ∀ dx, H2 dx = none → dx ≠ a → D.nx σ (upd (upd H2 dx (exd dx [(f, y)])) a (exo a C (some dx)))) ∨
    ∃ (dx : Addr) (fs : List (Str × V)), H2 a = some (exo a C (some dx)) ∧ H2 dx = some (exd dx fs) ∧ fs.length ≤ 900 ∧ D.nx σ (upd H2 dx (exd dx ((f, y) :: fs))))
section
variable {X : Cx} {o e : Expr} {es : List Expr} {to te : TE} {ta : TA} {f : Str} {p p' p1 p2 pos : Pos}
theorem pe_binit {pl : Sem Bool} {b : BD} {x : Str} (hg : Gl X x) (hm : X.mg x = none) (hv : bootBuiltins x = some (.type b.B)) (ht : typeOf (.type b.B) = pure (.type "type")) (hst : Manifest.isStub b.B = false)
    (vV : PySem.W.findCls X.K (.type b.B) (.type "type") "__init__" = some (.val (.builtin b.initId))) (hh : PySem.W.handedIn (.builtin b.initId) = true) (ha : PA X (e :: es) ta)
    (hn1 : x ≠ "__name__" := by decide) (hd1 : (x == ("__debug__" : Str)) = false := by decide)
    (hc : eval (.Call (.Attribute (.Name x p1) "__init__" p2) (e :: es) [] pos) X.env = (do
      let ov ← eval (.Name x p1) X.env
      standAt p2.atName
      let (f, first) ← holding [ov] (getMethod ov "__init__" pl)
      callWith pos f first (backTo pos (starEach (e :: es) X.env)) (backToKw pos (keywordEach [] X.env))) := by rfl)
    (he : starEach (e :: es) X.env = (false, eval e X.env) :: starEach es X.env := by rfl) (hpl : (backTo pos (starEach es X.env)).any (·.1) = false := by rfl) :
    PE X (.Call (.Attribute (.Name x p1) "__init__" p2) (e :: es) [] pos) (tBi X.K b ta) := by
  refine ⟨fun pins s σ H Q I h => ?_⟩
  refine PySem.W.methodCall_KW (ld_blt I hg hm hv ?_ hn1 hd1) hc
  obtain ⟨m, fr⟩ := I.fr
  refine PySem.W.method_type fr I.ok.mod.kin ht hst vV hh ?_
  show wpAny _ _ (callWith pos (Value.builtin b.initId) [] (backTo pos (starEach (e :: es) X.env)) []) _ _ _
  refine PyProof.Rows.callWith_method1 (thn (ha.run pos pins _ σ H _ (I.tok _) h) fun us s1 ⟨vs, H1, I1, r1, a, C, ws, ev, hl, T, ea, q⟩ => ?_) he hpl
  subst ev
  cases r1 with
  | @cons _ u0 _ ur ra rw' =>
    obtain rfl : u0 = Value.ref a := ra
    have hlen : ur.length ≤ sizeLine := by
      rw [← Paired.length rw', sizeLine_eq]
      omega
    exact oinit_ok T I1 ea hlen fun s' J => ⟨.non, H1, J, rfl, q⟩
theorem ps_osg (ho : PE X o to) (he : PE X e te) (hs : swapsWith e (some (.Attribute o f p')) pos.line X.env = pure false := by rfl) : PS X (.Assign [.Attribute o f p'] e pos) (tOsg X.K f to te) := by
  refine ⟨fun pins s σ H D I h => ?_⟩
  refine plainObj_wpAny_Assign_Attribute (thn (he.run pins s σ H _ I h) fun v s1 ⟨y, H1, I1, r1, q1⟩ => thn (ho.run pins s1 σ H1 _ I1 q1) fun u s2 ⟨x, H2, I2, r2, a, C, b, ex, T, hno, q⟩ => ?_) hs
  subst ex
  obtain rfl : u = Value.ref a := r2
  rcases q with ⟨ea, q⟩ | ⟨dx, fs, ea, ed, hl, q⟩
  · exact ost_new T I2 ea hno r1 fun dx s' n ne J => ⟨σ, _, J, q dx n ne⟩
  · exact ost_old T I2 ea ed hl hno r1 fun s' J => ⟨σ, _, J, q⟩
theorem mk_call {CX : CXT} {C fI : Addr} {k : Nat} {fd : FuncData} {ps : List Str} {sp : Sp} {ds : List Value} {dvs vs : List V} {us : List Value} {b : BD} {pins : List (Addr × Obj)} {σ : L2.St} {H1 : Hp} {Q : XK} {s1 : Shared} (T : OexG X.K C b) (iC : PySem.W.findIn X.K (.ref C) "__init__" = some (some (.ref fI))) (tI : PySem.W.typeIn X.K (.ref fI) = some (.type "function"))
    (F1 : FnOk X.prog X.w X.K X.mg X.base CX k fI fd ps sp) (hr : Room (k + 1) X.A) (hb : Binds X.K fd ps ds) (hd : Vals dvs ds) (hx : Passes CX X (fun _ _ _ => False)) (I1 : Inv X pins σ H1 s1) (r1 : Vals vs us) (hz : vs.length ≤ 1000)
    (q1 : ∀ a, H1 a = none → sp (.ref a :: (vs ++ dvs)) (upd H1 a (exo a C none))
      (fun v H2 => v = .non ∧ ∃ (d : Addr) (fs : List (Str × V)), H2 a = some (exo a C (some d)) ∧ H2 d = some (exd d fs) ∧ H1 d = none ∧ Q (.ref C) (some d) (upd (del H2 a) d (.xd fs))) (fun _ _ _ => False)) :
    wpAny (model X.prog X.w) X.A (call (.ref C) us) (MkP X pins σ Q) X.xe s1 := by
  obtain ⟨nm, q, N, bs, bm, sn, sub, ab, col, dd, k0, k1, k2, k3, k5, hC, hbm⟩ := T.cls
  obtain ⟨hp, g, dr, tk, os⟩ := s1
  have hsz : hp.objs.size ≤ hp.objs.size + 1 := Nat.le_succ _
  have hn : H1 (hp.objs.size + 1) = none := I1.hok.fresh hsz
  have hq := q1 (hp.objs.size + 1) hn
  have kk : ∀ b o, hp.get? b = some o → ((hp.push (PySem.W.kdv_tup us)).push (PySem.HandSPX.excO C hp.objs.size)).get? b = some o := fun b o e => Heap.get?_push_of_some _ (Heap.get?_push_of_some _ e)
  have hget : ((hp.push (PySem.W.kdv_tup us)).push (PySem.HandSPX.excO C hp.objs.size)).get? (hp.objs.size + 1) = some (PySem.HandSPX.excO C hp.objs.size) := by heap_get
  have I2 : Inv X pins σ (upd H1 (hp.objs.size + 1) (exo (hp.objs.size + 1) C none)) ⟨(hp.push (PySem.W.kdv_tup us)).push (PySem.HandSPX.excO C hp.objs.size), g, dr, tk, os⟩ :=
    I1.laid (t' := tk) (a := hp.objs.size + 1) (o := exo (hp.objs.size + 1) C none) (h' := (hp.push (PySem.W.kdv_tup us)).push (PySem.HandSPX.excO C hp.objs.size)) kk hsz (exo_ok hget)
  have r2 : Vals (V.ref (hp.objs.size + 1) :: (vs ++ dvs)) (Value.ref (hp.objs.size + 1) :: (us ++ ds)) := .cons rfl (r1.append hd)
  have hl : (Value.ref (hp.objs.size + 1) :: us ++ ds).length = ps.length := by
    have e := r2.length
    rw [F1.len _ _ _ _ hq] at e
    exact e.symm
  have hus : us.length ≤ sizeLine := by
    rw [← Paired.length r1, sizeLine_eq]
    omega
  refine wpAny_call (PySem.HandSPX.call_own T.ob.F (fun Y => PySem.W.excTail_contains Y bm hbm) (I1.kIn _ _ hC) (PySem.W.looks_findIn I1.kIn iC) (fun self => PySem.W.bind_fn I1.kIn self tI) hus
    (codeAny_mono (F1.run _ X.stack _ _ ⟨Value.ref (hp.objs.size + 1) :: us, []⟩ (Value.ref (hp.objs.size + 1) :: (us ++ ds)) _ _ (fun _ _ _ => False) (hr.make C us []) (I2.env0.make C us []) (hb _ (Value.ref (hp.objs.size + 1) :: us) I2.kIn hl) r2 hq) fun r s' hq' => ?_))
  cases r with
  | error er => exact hx pins σ _ _ er s' I2 hq'
  | ok fl =>
    cases fl with
    | ret u =>
      obtain ⟨v, H2, os2, bare2, un2, hok2, rv, ev, d, fs, ea, ed, hd1, q2⟩ := hq'
      subst ev
      obtain ⟨h2, g2, d2, t2, os'⟩ := s'
      exact ⟨rv, mk_end (raises_own T.exC T.tyC) I1 hsz kk un2 hok2 os2 bare2 ea ed hd1 q2⟩
    | next => exact False.elim hq'
    | brk => exact False.elim hq'
    | cont => exact False.elim hq'
theorem pmk_oexG {CX : CXT} {x : Str} {C fI : Addr} {k : Nat} {fd : FuncData} {ps : List Str} {sp : Sp} {ds : List Value} {dvs : List V} {b : BD} (T : OexG X.K C b) (iC : PySem.W.findIn X.K (.ref C) "__init__" = some (some (.ref fI))) (tI : PySem.W.typeIn X.K (.ref fI) = some (.type "function"))
    (F1 : FnOk X.prog X.w X.K X.mg X.base CX k fI fd ps sp) (hr : Room (k + 1) X.A) (hb : Binds X.K fd ps ds) (hd : Vals dvs ds) (hx : Passes CX X (fun _ _ _ => False)) (hg : Gl X x) (hm : X.mg x = some (.ref C)) (ha : PA X (e :: es) ta)
    (hdb : (x == ("__debug__" : Str)) = false := by decide) (he : starEach (e :: es) X.env = (false, eval e X.env) :: starEach es X.env := by rfl) (hpl : (backTo pos (starEach es X.env)).any (·.1) = false := by rfl) :
    PMk X (.Call (.Name x p) (e :: es) [] pos) (tMkO C sp dvs ta) := by
  intro pins s σ H Q I h
  refine wpAny_Call_Name_kw (ld_glob I hg hm ?_ hdb)
  refine PySem.W.callWith_K (h₀ := X.base) I.ok.mod.kin T.kC (thn (ha.run pos pins s σ H _ I h) fun us s1 ⟨vs, H1, I1, r1, hz, q1⟩ => ⟨I1.kIn, ?_⟩) he hpl
  exact mk_call T iC tI F1 hr hb hd hx I1 r1 hz q1
theorem pmk_oexG0 {CX : CXT} {x : Str} {C fI : Addr} {k : Nat} {fd : FuncData} {ps : List Str} {sp : Sp} {ds : List Value} {dvs : List V} {b : BD} (T : OexG X.K C b) (iC : PySem.W.findIn X.K (.ref C) "__init__" = some (some (.ref fI))) (tI : PySem.W.typeIn X.K (.ref fI) = some (.type "function"))
    (F1 : FnOk X.prog X.w X.K X.mg X.base CX k fI fd ps sp) (hr : Room (k + 1) X.A) (hb : Binds X.K fd ps ds) (hd : Vals dvs ds) (hx : Passes CX X (fun _ _ _ => False)) (hg : Gl X x) (hm : X.mg x = some (.ref C))
    (hdb : (x == ("__debug__" : Str)) = false := by decide) :
    PMk X (.Call (.Name x p) [] [] pos) (tMkO C sp dvs fun _ H Q => Q [] H) := by
  intro pins s σ H Q I h
  refine wpAny_Call_Name_kw (ld_glob I hg hm ?_ hdb)
  refine PySem.W.callWith_K0 I.kIn T.kC ?_
  exact mk_call (us := []) (vs := []) T iC tI F1 hr hb hd hx I .nil h.1 h.2
end
end RK
namespace RK
open PySem PySem.Spec PyProof.Rows L2 PySem.OEG
structure FunA (K : PySem.W.Frag) (x qual : Str) (st : Stmt) (f : Addr) (fd : FuncData) : Prop where
  ex : ∃ (oc : Value) (od : Option Addr) (dV kV doc pm : Value) (an : Option Addr) (cdv ct : Value) (osl : Array (Option Value)),
    fd = PySem.W.fnOf x qual (defArgs st) (defBody st) (defScope st) dV kV doc pm an cdv ct ∧ K.lookup f = some ⟨oc, od, .func fd, osl⟩ ∧ PySem.W.codeIn K cdv qual = true
  kp : PySem.W.keepIn K (.ref f) = true
theorem FunA.ok {P : Program} {w : World} {K : PySem.W.Frag} {mg : Str → Option Value} {base : Heap} {x qual : Str} {st : Stmt} {f : Addr} {fd : FuncData} {N ps : List Str} {k : Nat} {sp : Sp} (F : FunA K x qual st f fd) (S : FnScope N ps (defScope st)) (len : ∀ vs H Q E, sp vs H Q E → vs.length = ps.length)
    (hbody : ∀ (cdv : Value) (A : Around) (outer : List Env) (s : Shared) (H : Hp) (vs : List V) (Q : VK) (E : XK), Room k (A.deeper (envOfC qual (defScope st) s.heap.objs.size f cdv)) → sp vs H Q E →
      ∃ t, PSs (cxOf CX0 P w K mg base N qual (defScope st) f cdv A outer s H E).nox (defBody st) t ∧ t { nx := fun _ H' => Q .non H', rt := Q } (start N vs) H) : FnOk P w K mg base CX0 (k + 1) f fd ps sp := by
  obtain ⟨oc, od, dV, kV, doc, pm, an, cdv, ct, osl, rfl, lk, hcd⟩ := F.ex
  refine fn_of lk hcd S len fun A outer s H vs Q E hr hsp => ?_
  obtain ⟨t, ht, hq⟩ := hbody cdv A outer s H vs Q E hr hsp
  exact ⟨t, ht.nox, hq⟩
theorem find_V (K : PySem.W.Frag) : PySem.W.findCls K (.type "ValueError") (.type "type") "__init__" = some (.val (.builtin "ValueError.__init__")) := by kernel_rfl
def TxtOk (y : Str) : Prop := y.length ≤ 1000 ∧ ∀ c ∈ y.cps.toList, c < 16 ^ 8
theorem TxtOk.repr {y : Str} (h : TxtOk y) : (reprText y).length ≤ 20000 := by
  have := PySem.StrLaws.reprText_len y h.2
  have := h.1
  omega
theorem sz20 {n : Nat} (h : n ≤ 100000) : n ≤ sizeLine := Nat.le_trans h (by rw [sizeLine_eq]; decide)
theorem str_app (a b : Str) : (a ++ b).length = a.length + b.length := by
  show (a.cps ++ b.cps).size = a.cps.size + b.cps.size
  exact Array.size_append
def spBase (K : PySem.W.Frag) (b : BD) : Sp := fun vs H Q _ => ∃ (a C : Addr) (z y : Str), vs = [.ref a, .str z, .str y] ∧ OexG K C b ∧ PySem.W.findIn K (.ref C) "word" = some none ∧ H a = some (exo a C none) ∧
  ∀ dx, H dx = none → dx ≠ a → Q .non (upd (upd H dx (exd dx [("word", .str z)])) a (exo a C (some dx)))
def spErr0 (C : Addr) (z : Str) : Sp := fun vs H Q _ => ∃ a : Addr, vs = [.ref a] ∧ H a = some (exo a C none) ∧
  ∀ dx, H dx = none → dx ≠ a → Q .non (upd (upd H dx (exd dx [("word", .str z)])) a (exo a C (some dx)))
def spErrS (C : Addr) (z f : Str) : Sp := fun vs H Q _ => ∃ (a : Addr) (y : Str), vs = [.ref a, .str y] ∧ TxtOk y ∧ H a = some (exo a C none) ∧
  ∀ dx, H dx = none → dx ≠ a → Q .non (upd (upd (upd H dx (exd dx [("word", .str z)])) a (exo a C (some dx))) dx (exd dx [(f, .str y), ("word", .str z)]))
theorem OexG.isC {K : PySem.W.Frag} {C : Addr} {b : BD} (T : OexG K C b) : (PySem.W.clsIn K C).isSome = true := by
  obtain ⟨nm, q, N, bs, bm, sn, sub, ab, col, dd, k0, k1, k2, k3, k5, hC, _⟩ := T.cls
  unfold PySem.W.clsIn
  rw [hC]
  rfl
theorem OexG.exm {K : PySem.W.Frag} {C : Addr} {b : BD} {cls : Value} {v : Bool} (T : OexG K C b) (h : PySem.W.subIn K cls (.ref C) = some v) : PySem.W.exmOne K cls (.ref C) = some v := by
  unfold PySem.W.exmOne
  rw [T.exC, if_pos (by simp)]
  show (if ((PySem.W.clsIn K C).isSome && PySem.W.typeIn K (.ref C) == some (.type "type")) = true then PySem.W.subIn K cls (.ref C) else none) = some v
  rw [T.isC, T.tyC, if_pos (by simp)]
  exact h
theorem exm1 {K : PySem.W.Frag} {C : Addr} {b : BD} {cls : Value} {v : Bool} (T : OexG K C b) (h : PySem.W.subIn K cls (.ref C) = some v) : PySem.W.exmAny K cls [.ref C] = some v := by
  unfold PySem.W.exmAny PySem.W.exmAny
  rw [T.exm h]
  simp
theorem exm2 {K : PySem.W.Frag} {C D : Addr} {b c : BD} {cls : Value} {v u : Bool} (T : OexG K C b) (S : OexG K D c) (h : PySem.W.subIn K cls (.ref C) = some v) (g : PySem.W.subIn K cls (.ref D) = some u) : PySem.W.exmAny K cls [.ref C, .ref D] = some (v || u) := by
  unfold PySem.W.exmAny
  rw [T.exm h, exm1 S g]
end RK
namespace RK
open PySem PySem.Spec PyProof.Rows L2 PySem.OEG
structure WinsW (H : Hp) (ws : List W3) : Prop where
  nd : (Names ws).Nodup
  tx : ∀ w ∈ ws, TxtOk w.1
  at_ : ∀ w ∈ ws, H w.2.1 = some (.tup w.2.2.vs)
theorem WinsW.same {H H' : Hp} {ws : List W3} (W : WinsW H ws) (e : Same H H') : WinsW H' ws := ⟨W.nd, W.tx, fun w hw => e _ _ (W.at_ w hw)⟩
theorem WinsW.perm {H : Hp} {ws us : List W3} (W : WinsW H ws) (p : us.Perm ws) : WinsW H us := ⟨(List.Perm.map (fun x : W3 => x.1) p).nodup_iff.mpr W.nd, fun w hw => W.tx w (p.mem_iff.mp hw), fun w hw => W.at_ w (p.mem_iff.mp hw)⟩
theorem NameOk.txt {z : Str} (h : NameOk z) : TxtOk z := by
  refine ⟨Nat.le_trans h.2.1 (by decide), fun c hc => ?_⟩
  have l := h.2.2 c hc
  unfold Low at l
  have e : (16 : Nat) ^ 8 = 4294967296 := by decide
  omega
theorem Wins.weak {H : Hp} {ws : List W3} (W : Wins H ws) : WinsW H ws := ⟨W.nd, fun w hw => (W.nm w hw).txt, W.at_⟩
theorem err_heap {H : Hp} {a dx : Addr} {o1 o2 o3 o5 : HO} (ha : H a = none) (ne : dx ≠ a) : upd (del (upd (upd (upd H a o1) dx o2) a o3) a) dx o5 = upd H dx o5 := by
  funext b
  by_cases h1 : b = dx
  · subst h1
    rw [upd_same, upd_same]
  · rw [upd_ne h1, upd_ne h1]
    by_cases h2 : b = a
    · subst h2
      rw [del_same, ha]
    · rw [del_ne h2, upd_ne h2, upd_ne h1, upd_ne h2]
theorem err_heap2 {H : Hp} {a dx : Addr} {o1 o2 o3 o4 o5 : HO} (ha : H a = none) (ne : dx ≠ a) : upd (del (upd (upd (upd (upd H a o1) dx o2) a o3) dx o4) a) dx o5 = upd H dx o5 := by
  funext b
  by_cases h1 : b = dx
  · subst h1
    rw [upd_same, upd_same]
  · rw [upd_ne h1, upd_ne h1]
    by_cases h2 : b = a
    · subst h2
      rw [del_same, ha]
    · rw [del_ne h2, upd_ne h1, upd_ne h2, upd_ne h1, upd_ne h2]
def errS (z f : Str) (y : V) : List (Str × V) := [(f, y), ("word", .str z)]
def err0 (z : Str) : List (Str × V) := [("word", .str z)]
theorem free_up {H : Hp} {a dx : Addr} {o : HO} (h : upd H a o dx = none) : H dx = none := by
  by_cases e : dx = a
  · rw [e, upd_same] at h
    cases h
  · rw [upd_ne e] at h
    exact h
theorem raise0 {C : Addr} {z : Str} {H : Hp} {Q : XK} {E : XK} (q : ∀ dx, H dx = none → Q (.ref C) (some dx) (upd H dx (.xd (err0 z)))) :
    ([] : List V).length ≤ 1000 ∧ ∀ a, H a = none → spErr0 C z (.ref a :: ([] ++ [])) (upd H a (exo a C none))
      (fun v H2 => v = .non ∧ ∃ (d : Addr) (fs : List (Str × V)), H2 a = some (exo a C (some d)) ∧ H2 d = some (exd d fs) ∧ H d = none ∧ Q (.ref C) (some d) (upd (del H2 a) d (.xd fs))) E := by
  refine ⟨by simp, fun a na => ⟨a, rfl, upd_same, fun dx n ne => ⟨rfl, dx, err0 z, upd_same, ?_, free_up n, ?_⟩⟩⟩
  · rw [upd_ne ne, upd_same]
    rfl
  · rw [err_heap na ne]
    exact q dx (free_up n)
theorem raiseS {C : Addr} {z f y : Str} {H : Hp} {Q : XK} {E : XK} (hy : TxtOk y) (q : ∀ dx, H dx = none → Q (.ref C) (some dx) (upd H dx (.xd (errS z f (.str y))))) :
    [V.str y].length ≤ 1000 ∧ ∀ a, H a = none → spErrS C z f (.ref a :: ([.str y] ++ [])) (upd H a (exo a C none))
      (fun v H2 => v = .non ∧ ∃ (d : Addr) (fs : List (Str × V)), H2 a = some (exo a C (some d)) ∧ H2 d = some (exd d fs) ∧ H d = none ∧ Q (.ref C) (some d) (upd (del H2 a) d (.xd fs))) E := by
  refine ⟨by simp, fun a na => ⟨a, y, rfl, hy, upd_same, fun dx n ne => ⟨rfl, dx, errS z f (.str y), ?_, upd_same, free_up n, ?_⟩⟩⟩
  · rw [upd_ne (Ne.symm ne), upd_same]
  · rw [err_heap2 na ne]
    exact q dx (free_up n)
def ChkX (CS CN CR : Addr) (ws : List W3) (H : Hp) (Q : Hp → Prop) (E : XK) : Prop :=
  (¬ (1 ≤ ws.length ∧ ws.length ≤ 24) → ∀ dx, H dx = none → E (.ref CS) (some dx) (upd H dx (.xd (err0 "BadSize")))) ∧
  (1 ≤ ws.length ∧ ws.length ≤ 24 → ∀ us : List W3, us.Perm ws → sortedS (Names us) = true → ∀ H', Same H H' →
    ((∀ w ∈ us, NameOk w.1) → (∀ w ∈ us, w.2.2.good) → Q H') ∧
    (∀ pre w post, us = pre ++ w :: post → (∀ v ∈ pre, NameOk v.1) → ¬ NameOk w.1 → ∀ dx, H' dx = none → E (.ref CN) (some dx) (upd H' dx (.xd (errS "BadName" "name" (.str w.1))))) ∧
    (∀ pre w post, us = pre ++ w :: post → (∀ v ∈ us, NameOk v.1) → (∀ v ∈ pre, v.2.2.good) → ¬ w.2.2.good → ∀ dx, H' dx = none → E (.ref CR) (some dx) (upd H' dx (.xd (errS "BadRectangle" "name" (.str w.1))))))
theorem ChkX.same {CS CN CR : Addr} {ws : List W3} {H : Hp} {Q Q' : Hp → Prop} {E : XK} (h : ChkX CS CN CR ws H Q E) (k : ∀ H', Same H H' → Q H' → Q' H') : ChkX CS CN CR ws H Q' E :=
  ⟨h.1, fun l us pu so H' s' => ⟨fun n g => k H' s' ((h.2 l us pu so H' s').1 n g), (h.2 l us pu so H' s').2⟩⟩
end RK
namespace DL
open PySem PySem.Spec PyProof.Rows L2 RK
structure Er where
  C : Addr
  w : Str
  f : Option (Str × D)
def lfV : D → V
  | .str x => .str x
  | .int i => .int i
  | .bl b => .bl b
  | _ => .non
def Er.fs (e : Er) : List (Str × V) := match e.f with
  | none => err0 e.w
  | some (f, d) => errS e.w f (lfV d)
abbrev DSpX := List D → (D → Prop) → (Er → Prop) → Prop
def ErOk (F : Fx) (PX : Er → Prop) (E : XK) : Prop := ∀ (e : Er) (dx : Addr) (H' : Hp), PX e → KeepW F.W F.H0 H' → F.W.ok H' → F.H0 dx = none → H' dx = some (.xd e.fs) → E (.ref e.C) (some dx) H'
def lSpX (K : PySem.W.Frag) (fr : Fr) (sp : DSpX) : Sp := fun vs H Q E => ∃ (W : Wd) (N0 : Addr → Prop) (ds : List D) (P : D → Prop) (PX : Er → Prop), (∀ a, N0 a → ∃ o : HoN, H a = some o.1) ∧ (∀ a, W.own a → N0 a) ∧ W.ok H ∧ DdAll K N0 W H vs ds ∧ sp ds P PX ∧
  (∀ x v H', P x → KeepW W H H' → W.ok H' → Dd K N0 W H' v x → Nw K W N0 H fr H' v x → Q v H') ∧ ErOk ⟨K, W, N0, H, fr⟩ PX E
section
variable {X : Cx} {F : Fx} {e a b c : Expr} {es : List Expr} {d da db dc : TDE} {ds dk : TDA} {pos p : Pos} {PX : Er → Prop}
def dCallX (sp : DSpX) (PX : Er → Prop) (ds : TDA) : TDE := fun env P => ds env fun xs => sp xs P PX
theorem ErOk.up {E : XK} {env : De} {σ : L2.St} {L : List Addr} {H : Hp} {fr : Fr} {N0 : Addr → Prop} (hE : ErOk F PX E) (A : Abs F env σ L H) : ErOk ⟨F.K, F.W, N0, H, fr⟩ PX E := fun er dx H2 pe k2 o2 n2 h2 => hE er dx H2 pe (A.kp.trans k2) o2 (free_of A.kp A.ok n2) h2
theorem lcallX {fr : Fr} {sp : DSpX} {E : XK} {K : PySem.W.Frag} (hE : ErOk F PX E) (hK : F.K = K) : ∀ σ H Q, lC F (dCallX sp PX ds) σ H Q → tCall (lSpX K fr sp) [] E (lA F ds) σ H Q := fun σ H Q ⟨env, L, P, A, pp, q⟩ => by
  subst hK
  exact ⟨env, L, _, A, pp, fun xs vs H1 px k1 o1 d1 => ⟨F.W, F.N L, xs, P, PX, fun a h => (A.step k1 o1).alN h, fun a h => .inl (A.wn a h), o1, by rw [List.append_nil]; exact d1, px, fun x v H2 p2 k2 o2 d2 _ => q x v H2 p2 (k1.trans k2) o2 d2, hE.up (A.step k1 o1)⟩⟩
variable {CX : CXT} {k : Nat} {f : Addr} {fd : FuncData} {ps ks : List Str} {sp : DSpX} {E : XK} {x : Str} {fr : Fr} {K : PySem.W.Frag}
theorem dd_callX (hE : ErOk F PX E) (G : FnOk X.prog X.w X.K X.mg X.base CX k f fd ps (lSpX K fr sp)) (hr : Room k X.A) (hg : Gl X x) (hm : X.mg x = some (.ref f)) (hk : PySem.W.keepIn X.K (.ref f) = true) (hb : Binds X.K fd ps []) (hx : Passes CX X E) (ha : PA X (e :: es) (lA F ds)) (hK : F.K = K := by rfl)
    (he : starEach (e :: es) X.env = (false, eval e X.env) :: starEach es X.env := by rfl) (hpl : (backTo pos (starEach es X.env)).any (·.1) = false := by rfl) (hdb : (x == ("__debug__" : Str)) = false := by decide) :
    PE X (.Call (.Name x p) (e :: es) [] pos) (lC F (dCallX sp PX ds)) := PE.mono (pe_call G hr hg hm hk hb .nil hx ha hdb he hpl) (lcallX hE hK)
def sRaise0 (PX : Er → Prop) (C : Addr) (z : Str) : TDS := fun _ _ => PX ⟨C, z, none⟩
def sRaiseS (PX : Er → Prop) (C : Addr) (z f : Str) (d : TDE) : TDS := fun _ env => d env fun x => match x with
  | .str y => TxtOk y ∧ PX ⟨C, z, some (f, .str y)⟩
  | _ => False
theorem er_new {er : Er} {env : De} {σ : L2.St} {L : List Addr} {H : Hp} (hE : ErOk F PX E) (A : Abs F env σ L H) (h : PX er) : ∀ dx, H dx = none → E (.ref er.C) (some dx) (upd H dx (.xd er.fs)) := fun dx n => hE er dx _ h (A.kp.trans (.new n)) (ok_new A.ok n) (free_of A.kp A.ok n) upd_same
theorem l_raise0 {C : Addr} {z : Str} (hE : ErOk F PX E) : ∀ D σ H, lS F (sRaise0 PX C z) D σ H → (fun _ σ H => L2.tMkO C (spErr0 C z) [] (fun _ H Q => Q [] H) σ H fun cls d H' => E cls d H') D σ H := fun D σ H ⟨env, L, P, A, pp, _⟩ => raise0 fun dx n => er_new (er := ⟨C, z, none⟩) hE A pp dx n
theorem l_raiseS {C : Addr} {z f : Str} {d : TDE} (hE : ErOk F PX E) : ∀ D σ H, lS F (sRaiseS PX C z f d) D σ H → (fun _ σ H => L2.tMkO C (spErrS C z f) [] (tCons (lC F d) tNil) σ H fun cls d H' => E cls d H') D σ H := fun D σ H ⟨env, L, P, A, pp, _⟩ =>
  ⟨env, L, _, A, pp, fun x v H1 px k1 o1 d1 => by
    cases x with
    | str y =>
      have := dd_strE d1
      subst this
      exact raiseS px.1 fun dx n => er_new (er := ⟨C, z, some (f, .str y)⟩) hE (A.step k1 o1) px.2 dx n
    | _ => exact px.elim⟩
theorem ds_raise0 {C : Addr} {z : Str} (hE : ErOk F PX E) (hc : X.calm = true) (tk : Takes X fun cls d _ H => E cls d H) (he : PMk X e (L2.tMkO C (spErr0 C z) [] fun _ H Q => Q [] H)) : PS X (.Raise (some e) none pos) (lS F (sRaise0 PX C z)) := PS.mono (ps_raise hc tk he) (l_raise0 hE)
theorem ds_raiseS {C : Addr} {z f : Str} {d : TDE} (hE : ErOk F PX E) (hc : X.calm = true) (tk : Takes X fun cls d _ H => E cls d H) (he : PMk X e (L2.tMkO C (spErrS C z f) [] (tCons (lC F d) tNil))) : PS X (.Raise (some e) none pos) (lS F (sRaiseS PX C z f d)) := PS.mono (ps_raise hc tk he) (l_raiseS hE)
def lInitX (K : PySem.W.Frag) (C : Addr) (f : Str) (sp : DSpX) : Sp := fun vs H Q E => ∃ (W : Wd) (N0 : Addr → Prop) (x dx : Addr) (us : List V) (ds : List D) (P : D → Prop) (PX : Er → Prop) (H1 : Hp), vs = .ref x :: us ∧ H1 x = none ∧ H1 dx = none ∧ dx ≠ x ∧ H = upd (upd H1 dx (.own x)) x (.ins C dx []) ∧
  (∀ a, N0 a → ∃ o : HoN, H1 a = some o.1) ∧ (∀ a, W.own a → N0 a) ∧ W.ok H1 ∧ DdAll K N0 W H1 us ds ∧ sp ds P PX ∧ (∀ y H', P y → KeepW W H1 H' → W.ok H' → Dd K N0 W H' (.ref x) (.obj C [(f, y)]) → Q .non H') ∧ ErOk ⟨K, W, N0, H1, false⟩ PX E
def dMkX (C : Addr) (f : Str) (sp : DSpX) (PX : Er → Prop) (ds : TDA) : TDE := fun env P => ds env fun xs => sp xs (fun y => P (.obj C [(f, y)])) PX
theorem l_makeX {C : Addr} {f : Str} {sp : DSpX} {E : XK} {K : PySem.W.Frag} (hE : ErOk F PX E) (hK : F.K = K) : ∀ σ H Q, lC F (dMkX C f sp PX ds) σ H Q → tMake C (lInitX K C f sp) [] E (lA F ds) σ H Q := fun σ H Q ⟨env, L, P, A, pp, q⟩ => by
  subst hK
  exact ⟨env, L, _, A, pp, fun xs vs H1 px k1 o1 d1 x dx nx nd ne => ⟨F.W, F.N L, x, dx, vs, xs, _, PX, H1, by rw [List.append_nil], nx, nd, ne, rfl, fun a h => (A.step k1 o1).alN h, fun a h => .inl (A.wn a h), o1, d1, px, fun y H' py k2 o2 d2 => ⟨rfl, q _ _ H' py (k1.trans k2) o2 d2⟩, hE.up (A.step k1 o1)⟩⟩
end
end DL
namespace RK
open PySem PySem.Spec PyProof.Rows L2 LamX
def thin (H H1 : Hp) : Hp := fun a => match H1 a, H a with
  | some (.tbl _), none => none
  | o, _ => o
theorem thin_le {H H1 : Hp} {a : Addr} {o : HO} (h : thin H H1 a = some o) : H1 a = some o := by
  unfold thin at h
  split at h
  · cases h
  · exact h
theorem thin_of {H H1 : Hp} {a : Addr} {o : HO} (h : H1 a = some o) (n : Ntb o ∨ H a ≠ none) : thin H H1 a = some o := by
  unfold thin
  split
  · rename_i ps e1 e2
    rw [h] at e1
    cases e1
    rcases n with n | n
    · exact n.elim
    · exact (n e2).elim
  · exact h
theorem thin_non {H H1 : Hp} {a : Addr} (h : H1 a = none) : thin H H1 a = none := by
  cases q : thin H H1 a with
  | none => rfl
  | some o => rw [thin_le q] at h; cases h
theorem thin_noT {H H1 : Hp} (e : ExtN H H1) : NoT H (thin H H1) := fun a ps h => by
  cases q : H a with
  | none =>
    have h1 := thin_le h
    unfold thin at h
    rw [h1, q] at h
    cases h
  | some o =>
    cases o with
    | tbl qs => exact ⟨qs, rfl⟩
    | _ =>
      have z := e a _ q (fun ps z => by cases z)
      rw [thin_le h] at z
      cases z
theorem thin_ext {H H1 : Hp} (e : ExtN H H1) : ExtN H (thin H H1) := fun b o h n => thin_of (e b o h n) (.inr (by rw [h]; simp))
theorem thin_tabs {H H1 : Hp} {T : List (Addr × Str)} (t0 : Tabs T H) (t : Tabs T H1) : Tabs T (thin H H1) := fun p hp => by
  obtain ⟨ps, h1, h2, h3⟩ := t p hp
  obtain ⟨qs, g1, _⟩ := t0 p hp
  refine ⟨ps, thin_of h1 (.inr (by rw [g1]; simp)), h2, fun pos cv hc => ?_⟩
  obtain ⟨c, e1, e2⟩ := h3 pos cv hc
  exact ⟨c, e1, thin_of e2 (.inl (by unfold CodeO; exact True.intro))⟩
section
variable {X : Cx} {pins : List (Addr × Obj)} {σ : L2.St} {H H1 : Hp} {s s1 : Shared}
theorem inv_thin (I : Inv X pins σ H s) (J : Inv X pins σ H1 s1) : Inv X pins σ (thin H H1) s1 where
  ok := J.ok
  os := J.os
  bare := J.bare
  base := { keep := J.base.keep, slot := J.base.slot, free := fun b o e n x => thin_non (J.base.free b o e n x), there := J.base.there,
            tups := fun b xs e => thin_of (J.base.tups b xs e) (.inl True.intro), frzs := fun b o u e => thin_of (J.base.frzs b o u e) (.inl True.intro),
            tbls := fun b ps e => (let ⟨more, h⟩ := J.base.tbls b ps e; ⟨more, thin_of h (.inr (by obtain ⟨m, z⟩ := I.base.tbls b ps e; rw [z]; simp))⟩) }
  loc := J.loc
  cell := J.cell
  free := thin_non J.free
  freeC := fun x c e => thin_non (J.freeC x c e)
  pin := fun p hp => (let ⟨a, b, c⟩ := J.pin p hp; ⟨a, thin_non b, c⟩)
  hok := fun a o e => (J.hok a o (thin_le e)).stay (fun b u _ q => q) (fun b q => thin_of q (.inl True.intro)) fun b xs q => thin_of q (.inl True.intro)
  len := J.len
def tLamT (T : List (Addr × Str)) (TT : (XK → Hp → VK → Prop) → Hp → VK → Prop) (t : XK → TE) : TE := fun σ H Q => Tabs T H ∧ ∀ H1, ExtN H H1 → NoT H H1 → Tabs T H1 → TT (fun E H' Q' => t E σ H' Q') H1 Q
theorem pe_lamT {T : List (Addr × Str)} {TT : (XK → Hp → VK → Prop) → Hp → VK → Prop} {x a : Str} {g c P : Addr} {k : Nat} {pg : Arguments} {bg : List Stmt} {sg : Scope} {dV kV doc pm cdv ct oc : Value} {an od : Option Addr} {osl : Array (Option Value)} {Ng : List Str}
    {params : Arguments} {body : Expr} {scope : Scope} {t : XK → TE} {p lpos pos : Pos} (gx : Gl X x) (mx : X.mg x = some (.ref g)) (kx : PySem.W.keepIn X.K (.ref g) = true)
    (lk : X.K.lookup g = some ⟨oc, od, .func (PySem.W.fnOf x x pg bg sg dV kV doc pm an cdv ct), osl⟩) (hcg : PySem.W.codeIn X.K cdv x = true) (bx : L2.Binds X.K (PySem.W.fnOf x x pg bg sg dV kV doc pm an cdv ct) [a] []) (Sg : FnScope Ng [a] sg) (hNg : Ng[0]? = some a) (hva : Vis sg a)
    (gv : GivesTo X Ng x sg g cdv bg a (X.env.qual ++ "<lambda>") TT)
    (TB : TabB X.base X.mg c P) (hcode : X.env.code = .ref c) (hmT : (P, X.env.qual ++ "<lambda>") ∈ T) (hu : ∀ p ∈ T, p.1 = P → p.2 = X.env.qual ++ "<lambda>") (hr : Room (k + 2) X.A) (L : LamS X.env.scope scope) (hdef : defaultsOf params X.env = ([], []))
    (bd : ∀ (q : Str) (cl : List (Str × Addr)) (pm cv ctv : Value), bindArgs (PySem.W.kla_fn "<lambda>" q params body scope cl pm cv ctv) ⟨[], []⟩ = pure [])
    (hbody : ∀ (A : Around) (outer : List Env) (s : Shared) (H : Hp) (E : XK) (f c' : Addr), Room k (A.deeper (lamEnv X scope s.heap.objs.size f c')) → PE (lamCx X A outer s H E scope f c') body (t E))
    (n1 : (x == ("__debug__" : Str)) = false := by decide) (n2 : (a == ("__debug__" : Str)) = false := by decide) (n3 : (a == ("__classdict__" : Str)) = false := by decide) :
    PE X (.Call (.Name x p) [.Lambda params body scope lpos] [] pos) (tLamT T TT t) := by
  refine ⟨fun pins s σ H Q I ⟨hT, h⟩ => wpAny_Call_Name_kw (ld_glob I gx mx (PySem.W.callWith_K (h₀ := X.base) I.ok.mod.kin kx ?_ (by rfl) (by rfl)) n1)⟩
  refine Calls.spliced_cons (lam_make2 I TB hcode hmT hu hT hdef (L.has I.ok) fun f c' pm' ctv HL s' J eN TL hf hfn hfr hco => ?_)
  have J2 := inv_thin I J
  have ca : codeAny (model X.prog X.w) X.A (.call (.ref g) ⟨[.ref f], []⟩) (CR C8.CX0 X.stack X.prog X.w (thin H HL) s' Q C8.E0) s' :=
    run_ofS (N := Ng) (ps := [a]) (us := [.ref f]) (vs := [.ref f]) lk hcg Sg hr J2.env0 (bx s' [.ref f] J2.kIn rfl) (.cons rfl .nil) rfl fun hr' => by
      have hco2 : thin H HL c' = some (CodeO c' (X.env.qual ++ "<lambda>")) := thin_of hco (.inl (by unfold CodeO; exact True.intro))
      obtain ⟨t', u1, u2⟩ := gv f c' s' (thin H HL) Q (fun E H' Q' => t E σ H' Q') (fun W pn xe E p1 p2 tk hW => pe_act (i := 0) J2 L hf (thin_non hfn) hfr (bd _ _ _ _ _) tk hW hr' (fun A outer s H hr2 => hbody A outer s H E f c' hr2) hNg hva n2 n3) hco2 (h _ (thin_ext eN) (thin_noT eN) (thin_tabs hT TL))
      exact ⟨t', u1.nox, u2⟩
  refine Calls.spliced_nil ⟨J2.kIn, wpAny_call (codeAny_mono ca fun r s2 hq => ?_)⟩
  cases r with
  | error e => exact (show False from hq).elim
  | ok fl => cases fl with
    | ret u => exact J2.after hq
    | next => exact False.elim hq
    | brk => exact False.elim hq
    | cont => exact False.elim hq
theorem pe_lamDT {T : List (Addr × Str)} {TT : (XK → Hp → VK → Prop) → Hp → VK → Prop} {x a a0 : Str} {g c P : Addr} {k : Nat} {pg : Arguments} {bg : List Stmt} {sg : Scope} {dV kV doc pm cdv ct oc : Value} {an od : Option Addr} {osl : Array (Option Value)} {Ng : List Str}
    {params : Arguments} {body e0 : Expr} {scope : Scope} {t : XK → TE} {p lpos pos : Pos} (gx : Gl X x) (mx : X.mg x = some (.ref g)) (kx : PySem.W.keepIn X.K (.ref g) = true)
    (lk : X.K.lookup g = some ⟨oc, od, .func (PySem.W.fnOf x x pg bg sg dV kV doc pm an cdv ct), osl⟩) (hcg : PySem.W.codeIn X.K cdv x = true) (bx : L2.Binds X.K (PySem.W.fnOf x x pg bg sg dV kV doc pm an cdv ct) [a] []) (Sg : FnScope Ng [a] sg) (hNg : Ng[0]? = some a) (hva : Vis sg a)
    (gv : GivesTo X Ng x sg g cdv bg a (X.env.qual ++ "<lambda>") TT)
    (TB : TabB X.base X.mg c P) (hcode : X.env.code = .ref c) (hmT : (P, X.env.qual ++ "<lambda>") ∈ T) (hu : ∀ p ∈ T, p.1 = P → p.2 = X.env.qual ++ "<lambda>") (hr : Room (k + 2) X.A) (L : LamD X.N X.env.scope scope) (hdef : defaultsOf params X.env = ([eval e0 X.env], []))
    (he0 : ∀ (s : Shared) (Q E : Value → Shared → Prop), (∀ t, Q (.int 0 t) { s with toks := s.toks + 1 } ∧ Q (.int 0 t) s) → wpAny (model X.prog X.w) X.A (eval e0 X.env) Q E s)
    (bd : ∀ (q : Str) (cl : List (Str × Addr)) (td : Addr) (t0 : Tok) (pm cv ctv : Value), ∃ kk, bindArgs (PySem.W.kld_fn "<lambda>" q params body scope cl (.ref td) pm cv ctv) ⟨[], []⟩ = seqItems? (.ref td) >>= kk ∧ kk (some #[.int 0 t0]) = pure [(a0, .int 0 t0)]) (hl0 : scope.names.lookup a0 = some .local)
    (hbody : ∀ (A : Around) (outer : List Env) (s : Shared) (H : Hp) (E : XK) (f c' : Addr), Room k (A.deeper (lamEnv X scope s.heap.objs.size f c')) → PE (lamCx X A outer s H E scope f c') body (t E))
    (n1 : (x == ("__debug__" : Str)) = false := by decide) (n2 : (a == ("__debug__" : Str)) = false := by decide) (n3 : (a == ("__classdict__" : Str)) = false := by decide) :
    PE X (.Call (.Name x p) [.Lambda params body scope lpos] [] pos) (tLamT T TT t) := by
  refine ⟨fun pins s σ H Q I ⟨hT, h⟩ => wpAny_Call_Name_kw (ld_glob I gx mx (PySem.W.callWith_K (h₀ := X.base) I.ok.mod.kin kx ?_ (by rfl) (by rfl)) n1)⟩
  refine Calls.spliced_cons (lamD_make I TB hcode hmT hu hT hdef (fun s Q => he0 s Q _) (L.has I.ok) fun f c' td t0 pm' ctv HL s' J eN TL hf hfn hfr hco htd ntd tfr => ?_)
  have J2 := inv_thin I J
  have ca : codeAny (model X.prog X.w) X.A (.call (.ref g) ⟨[.ref f], []⟩) (CR C8.CX0 X.stack X.prog X.w (thin H HL) s' Q C8.E0) s' :=
    run_ofS (N := Ng) (ps := [a]) (us := [.ref f]) (vs := [.ref f]) lk hcg Sg hr J2.env0 (bx s' [.ref f] J2.kIn rfl) (.cons rfl .nil) rfl fun hr' => by
      have hco2 : thin H HL c' = some (CodeO c' (X.env.qual ++ "<lambda>")) := thin_of hco (.inl (by unfold CodeO; exact True.intro))
      obtain ⟨t', u1, u2⟩ := gv f c' s' (thin H HL) Q (fun E H' Q' => t E σ H' Q') (fun W pn xe E p1 p2 tk hW => pe_actD (i := 0) J2 L hf (thin_non hfn) hfr htd (thin_non ntd) tfr (bd _ _ _ _ _ _ _) hl0 tk hW hr' (fun A outer s H hr2 => hbody A outer s H E f c' hr2) hNg hva n2 n3) hco2 (h _ (thin_ext eN) (thin_noT eN) (thin_tabs hT TL))
      exact ⟨t', u1.nox, u2⟩
  refine Calls.spliced_nil ⟨J2.kIn, wpAny_call (codeAny_mono ca fun r s2 hq => ?_)⟩
  cases r with
  | error e => exact (show False from hq).elim
  | ok fl => cases fl with
    | ret u => exact J2.after hq
    | next => exact False.elim hq
    | brk => exact False.elim hq
    | cont => exact False.elim hq
end
end RK
namespace RK
open PySem PySem.Spec PyProof.Rows L2
def mx (i j : Int) : Int := if j > i then j else i
def mn (i j : Int) : Int := if j < i then j else i
def R.meets (p q : R) : Prop := mx p.l q.l < mn p.r q.r ∧ mx p.t q.t < mn p.b q.b
instance (p q : R) : Decidable (p.meets q) := by unfold R.meets; infer_instance
def ltS (a b : Str) : Bool := decide (a.cps.toList < b.cps.toList)
def TxP (H : Hp) (ts : List Addr) (ps : List (Str × Str)) : Prop := Paired (fun p (z : Str × Str) => H p = some (.tup [.str z.1, .str z.2])) ts ps
theorem TxP.mono {H H' : Hp} (k : ∀ p xs, H p = some (.tup xs) → H' p = some (.tup xs)) : ∀ {ts : List Addr} {ps : List (Str × Str)}, TxP H ts ps → TxP H' ts ps
  | _, _, .nil => .nil
  | _, _, .cons h t => .cons (k _ _ h) (TxP.mono k t)
theorem TxP.append {H : Hp} : ∀ {ts us : List Addr} {ps qs : List (Str × Str)}, TxP H ts ps → TxP H us qs → TxP H (ts ++ us) (ps ++ qs)
  | _, _, _, _, .nil, h => h
  | _, _, _, _, .cons g t, h => .cons g (TxP.append t h)
theorem TxP.len {H : Hp} {ts : List Addr} {ps : List (Str × Str)} (h : TxP H ts ps) : ts.length = ps.length := Paired.length h
theorem TxP.dp {K : PySem.W.Frag} {H : Hp} : ∀ {ts : List Addr} {ps : List (Str × Str)}, TxP H ts ps → DpAll K H (ts.map V.ref) (ps.map fun z => .tuple [.str z.1, .str z.2])
  | _, _, .nil => .nil
  | _, _, .cons h t => .cons (.tup (.inl (.inl h)) (.cons (.str _) (.cons (.str _) .nil))) (TxP.dp t)
inductive Stp where
  | mv (up : Bool) (names : List Str)
  | pl (z : Str) (a : Addr) (r : R)
def wordOf (up : Bool) : Str := if up = true then "raise" else "lower"
def StpAt (H : Hp) (p : Addr) : Stp → Prop
  | .mv up zs => ∃ l, H p = some (.tup [.str (wordOf up), .ref l]) ∧ H l = some (.lst (zs.map V.str))
  | .pl z a r => H p = some (.tup [.str "place", .str z, .ref a]) ∧ H a = some (.tup r.vs)
def Apart (b : Addr) (H : Hp) (p : Addr) : Prop := ∀ w l, H p = some (.tup [.str w, .ref l]) → l ≠ b
theorem StpAt.keep {b s : Addr} {H H' : Hp} {p : Addr} (k : Keep b H H') (B : Bag b s H) (ap : Apart b H p) : ∀ {x : Stp}, StpAt H p x → StpAt H' p x
  | .mv up zs, h => by
    obtain ⟨l, h1, h2⟩ := h
    exact ⟨l, k.of_tup B h1, k _ _ (ap _ _ h1) h2⟩
  | .pl z a r, h => ⟨k.of_tup B h.1, k.of_tup B h.2⟩
theorem StpAt.same {H H' : Hp} {p : Addr} (e : Same H H') : ∀ {x : Stp}, StpAt H p x → StpAt H' p x
  | .mv up zs, h => by
    obtain ⟨l, h1, h2⟩ := h
    exact ⟨l, e _ _ h1, e _ _ h2⟩
  | .pl z a r, h => ⟨e _ _ h.1, e _ _ h.2⟩
theorem StpAt.tup {H : Hp} {p : Addr} : ∀ {x : Stp}, StpAt H p x → ∃ xs, H p = some (.tup xs)
  | .mv up zs, h => by
    obtain ⟨l, h1, _⟩ := h
    exact ⟨_, h1⟩
  | .pl z a r, h => ⟨_, h.1⟩
theorem Apart.keep {b s : Addr} {H H' : Hp} {p : Addr} {xs : List V} (k : Keep b H H') (B : Bag b s H) (hp : H p = some (.tup xs)) (ap : Apart b H p) : Apart b H' p := fun w l h => by
  have := k.of_tup B hp
  rw [this] at h
  have e : xs = [.str w, .ref l] := by
    injection h with h
    injection h
  exact ap w l (e ▸ hp)
theorem Apart.same {b : Addr} {H H' : Hp} {p : Addr} {xs : List V} (e : Same H H') (hp : H p = some (.tup xs)) (ap : Apart b H p) : Apart b H' p := fun w l h => by
  have := e _ _ hp
  rw [this] at h
  have e2 : xs = [.str w, .ref l] := by
    injection h with h
    injection h
  exact ap w l (e2 ▸ hp)
def StpsAt (H : Hp) (ps : List Addr) (xs : List Stp) : Prop := Paired (fun p x => StpAt H p x) ps xs
theorem StpsAt.same {H H' : Hp} (e : Same H H') : ∀ {ps : List Addr} {xs : List Stp}, StpsAt H ps xs → StpsAt H' ps xs
  | _, _, .nil => .nil
  | _, _, .cons h t => .cons (h.same e) (StpsAt.same e t)
theorem StpsAt.len {H : Hp} {ps : List Addr} {xs : List Stp} (h : StpsAt H ps xs) : ps.length = xs.length := Paired.length h
theorem StpsAt.get {H : Hp} : ∀ {ps : List Addr} {xs : List Stp} {i : Nat} {p : Addr}, StpsAt H ps xs → ps[i]? = some p → ∃ x, xs[i]? = some x ∧ StpAt H p x
  | _, _, _, _, .nil, h => by simp at h
  | _, _, 0, _, .cons g _, h => by
    have e := Option.some.inj h
    subst e
    exact ⟨_, rfl, g⟩
  | _, _, i + 1, _, .cons _ t, h => StpsAt.get (i := i) t h
theorem StpsAt.map {H H' : Hp} : ∀ {ps : List Addr} {xs : List Stp}, (∀ p ∈ ps, ∀ x, StpAt H p x → StpAt H' p x) → StpsAt H ps xs → StpsAt H' ps xs
  | _, _, _, .nil => .nil
  | _, _, k, .cons h t => .cons (k _ List.mem_cons_self _ h) (StpsAt.map (fun p hp => k p (List.mem_cons_of_mem _ hp)) t)
theorem in_strs (z : Str) (zs : List Str) : inV (.str z) (zs.map V.str) = decide (z ∈ zs) := by
  unfold inV
  induction zs with
  | nil => rfl
  | cons y zs ih =>
    rw [List.map_cons, List.any_cons, ih]
    by_cases h : y = z
    · subst h
      simp [eqV]
    · have h2 : ¬ z = y := fun e => h e.symm
      simp [eqV, h, h2]
theorem flat_strs (zs : List Str) : (zs.map V.str).all flatV = true := by
  rw [List.all_eq_true]
  intro x hx
  obtain ⟨z, _, rfl⟩ := List.mem_map.mp hx
  rfl
end RK
namespace RK
open PySem PySem.Spec PyProof.Rows L2 PySem.OEG
structure Sn (H H' : Hp) : Prop where
  f : Same H H'
  n : NoT H H'
theorem Sn.new {H : Hp} {p : Addr} (h : H p = none) (o : HO) (n : Ntb o := by exact True.intro) : Sn H (upd H p o) := ⟨same_new h o, noT_upd n⟩
theorem Sn.trans {H H1 H2 : Hp} (a : Sn H H1) (b : Sn H1 H2) : Sn H H2 := ⟨a.f.trans b.f, fun x ps h => let ⟨qs, q⟩ := b.n x ps h; a.n x qs q⟩
structure ErrP (K : PySem.W.Frag) (H : Hp) (p : Addr × Obj) (C dd : Addr) (fs : List (Str × V)) (w : Str) : Prop where
  data : ∃ vs, p.2.data = .fields vs
  z : Zc (.ref C) (some dd) p.2
  xf : XfC K C
  nw : PySem.W.findIn K (.ref C) "word" = some none
  hx : H dd = some (.xd fs)
  lw : fs.lookup ("word" : Str) = some (.str w)
theorem ErrP.same {K : PySem.W.Frag} {H H' : Hp} {p : Addr × Obj} {C dd : Addr} {fs : List (Str × V)} {w : Str} (e : ErrP K H p C dd fs w) (s : Same H H') : ErrP K H' p C dd fs w := ⟨e.data, e.z, e.xf, e.nw, s _ _ e.hx, e.lw⟩
def lNam : List Str := ["BadName", "BadRectangle", "BadCost", "Unknown"]
def lAt : List Str := ["BadStep", "BadWish", "BadFact", "BadDeed", "BadText"]
def lStm : List Str := ["Taken", "Clash", "NoStamp"]
def lNum : List Str := ["Full", "NoWatch", "BadPage"]
def fieldName (w : Str) : Option Str := if w ∈ lNam then some "name" else if w ∈ lAt then some "at" else if w ∈ lStm then some "stamp" else if w ∈ lNum then some (if w = "Full" then "most" else if w = "BadPage" then "row" else "number") else none
def FieldOf (K : PySem.W.Frag) (C : Addr) (fs : List (Str × V)) (w : Str) (v : V) : Prop := match fieldName w with
  | none => v = .non
  | some n => PySem.W.findIn K (.ref C) n = some none ∧ fs.lookup n = some v
def spField (K : PySem.W.Frag) : SpP := fun p vs H Q _ => vs = [.ref p.1] ∧ ∃ (C dd : Addr) (fs : List (Str × V)) (w : Str) (v : V), ErrP K H p C dd fs w ∧ FieldOf K C fs w v ∧ ∀ H', Sn H H' → Q v H'
def tXa (K : PySem.W.Frag) (a : Addr) (cls : Value) (d : Option Addr) (n : Str) (te : TE) : TE := fun σ H Q => te σ H fun x H1 => x = .ref a ∧ ∃ (C dd : Addr) (fs : List (Str × V)) (v : V), cls = .ref C ∧ d = some dd ∧ XfC K C ∧ PySem.W.findIn K (.ref C) n = some none ∧ H1 dd = some (.xd fs) ∧ fs.lookup n = some v ∧ Q v H1
theorem pe_xa {X : Cx} {a : Addr} {oe : Obj} {cls : Value} {d : Option Addr} {e : Expr} {te : TE} {pos : Pos} {n : Str} (hz : Zc cls d oe) (hf : ∃ vs, oe.data = .fields vs) (hp : (a, oe) ∈ X.pn) (he : PE X e te) (hb : attributeBase e n X.env (eval e X.env) = eval e X.env := by rfl) :
    PE X (.Attribute e n pos) (tXa X.K a cls d n te) := by
  refine ⟨fun pins s σ H Q I h => ?_⟩
  refine attr_of hb (thn (he.run pins s σ H _ I h) fun u s1 hh => ?_)
  obtain ⟨x, H1, I1, rx, ex, C, dd, fs, v, ec, ed, T, hno, ea, l, q⟩ := hh
  subst ex
  subst ec
  subst ed
  obtain rfl : u = Value.ref a := rx
  obtain ⟨ha, _⟩ := I1.pin (a, oe) (List.mem_append_left _ hp)
  obtain ⟨vs, hd⟩ := hf
  have hx : ObjOk X.prog X.w H1 s1.heap dd (.xd fs) := I1.hok dd _ ea
  obtain ⟨mA, hns, hr⟩ := hx
  obtain ⟨od, ho, hl⟩ := lookIn_ns hns
  obtain ⟨u, hu, ru⟩ := RelO.some_of (v := v) (o := mA n) (by rw [← l]; exact hr n)
  have J : PySem.W.InstAt s1.heap a oe C (some od) := ⟨ha, hz.1, by unfold PySem.W.notCls; rw [hd] <;> rfl, by rw [hz.2]; exact ho⟩
  exact HandSPX.exc_get I1.kIn J T.ga T.gg T.exC (PySem.W.findObj_own T.hdC hno rfl (by rw [hl, hu])) (handed_of ru) ⟨v, H1, I1.tok _, ru, q⟩
def ErrA (K : PySem.W.Frag) (cls : Value) (d : Option Addr) (H : Hp) (C dd : Addr) (fs : List (Str × V)) (w : Str) : Prop := cls = .ref C ∧ d = some dd ∧ XfC K C ∧ PySem.W.findIn K (.ref C) "word" = some none ∧ H dd = some (.xd fs) ∧ fs.lookup ("word" : Str) = some (.str w)
def tFieldA (K : PySem.W.Frag) (a : Addr) (cls : Value) (d : Option Addr) (t : TA) : TE := fun σ H Q => t σ H fun vs H1 => vs = [.ref a] ∧ ∃ (C dd : Addr) (fs : List (Str × V)) (w : Str) (v : V), ErrA K cls d H1 C dd fs w ∧ FieldOf K C fs w v ∧ ∀ H', Sn H1 H' → Q v H'
theorem pe_fieldA {X : Cx} {k : Nat} {f : Addr} {fd : FuncData} {x : Str} {q pos : Pos} {e : Expr} {t : TA} {a : Addr} {oe : Obj} {cls : Value} {d : Option Addr} (hz : Zc cls d oe) (hf : ∃ vs, oe.data = .fields vs) (F : FnP X.prog X.w X.K X.mg X.base CX0 k f fd ["_law_e"] (spField X.K)) (hr : L2H.RoomH k X.A) (hp : (a, oe) ∈ X.pn) (hg : Gl X x)
    (hm : X.mg x = some (.ref f)) (hk : PySem.W.keepIn X.K (.ref f) = true) (hb : Binds X.K fd ["_law_e"] []) (ha : PA X [e] t) (hdb : (x == ("__debug__" : Str)) = false := by decide) (he : starEach [e] X.env = (false, eval e X.env) :: starEach [] X.env := by rfl) (hpl : (backTo pos (starEach [] X.env)).any (·.1) = false := by rfl) :
    PE X (.Call (.Name x q) [e] [] pos) (tFieldA X.K a cls d t) := by
  refine ⟨fun pins s σ H Q I h => ?_⟩
  refine wpAny_Call_Name_kw (ld_glob I hg hm ?_ hdb)
  refine PySem.W.callWith_K (h₀ := X.base) I.ok.mod.kin hk (thn (ha.run pos pins s σ H _ I h) fun us s1 ⟨vs, H1, I1, r, ev, C, dd, fs, w, v, ⟨ec, ed, xf, nw, hx, lw⟩, fo, q⟩ => ⟨I1.kIn, ?_⟩) he hpl
  subst ec
  subst ed
  exact run_fnP (E := E0) F hr hp hb pass0 I1 r ⟨ev, C, dd, fs, w, v, ⟨hf, hz, xf, nw, hx, lw⟩, fo, q⟩
def TTry (K : PySem.W.Frag) (CD CM CL : Addr) : (XK → Hp → VK → Prop) → Hp → VK → Prop := fun tl H Q =>
  tl (fun cls d H' => ∃ (C dd : Addr) (fs : List (Str × V)) (w : Str), ErrA K cls d H' C dd fs w ∧
      ((PySem.W.exmAny K cls [.ref CD, .ref CM] = some true ∧ ∃ v, FieldOf K C fs w v ∧ ∀ H2 t, Sn H' H2 → H2 t = none → Q (.ref t) (upd H2 t (.tup [.str w, v]))) ∨
       (PySem.W.exmAny K cls [.ref CD, .ref CM] = some false ∧ PySem.W.exmAny K cls [.ref CL] = some true ∧ ∀ t, H' t = none → Q (.ref t) (upd H' t (.tup [.str w, .non]))))) H
    (fun v H1 => [V.str "value", v].length ≤ sizeLine ∧ ∀ t, H1 t = none → Q (.ref t) (upd H1 t (.tup [.str "value", v])))
end RK
namespace DL
open PySem PySem.Spec PyProof.Rows L2 RK LamX
def En.hide : En → En
  | .fz d => .fz d
  | _ => .no
def hideO (env : De) : De := env.map En.hide
section
variable {F : Fx} {env : De} {σ : L2.St} {L : List Addr} {H H' : Hp}
theorem En.hide_ow : ∀ e : En, e.hide.isOw = false
  | .no => rfl
  | .fz _ => rfl
  | .ow _ => rfl
  | .od _ => rfl
  | .ot _ => rfl
  | .oo _ _ _ => rfl
  | .fe _ => rfl
  | .otr _ _ => rfl
theorem n_nil {N : Addr → Prop} {a : Addr} {K : PySem.W.Frag} {W : Wd} {H0 : Hp} {fr : Fr} : Fx.N ⟨K, W, N, H0, fr⟩ [] a ↔ N a := ⟨fun h => h.elim id (fun z => by cases z), fun h => .inl h⟩
theorem Abs.hid (A : Abs F env σ L H) : Abs ⟨F.K, F.W, F.N L, H, false⟩ (hideO env) σ [] H where
  ok := A.ok
  al := fun a h => A.alN h
  wn := fun a h => .inl (A.wn a h)
  kp := .refl _ _
  fr := fun a h => by cases h
  ls := by unfold hideO; rw [List.length_map]; exact A.ls
  sep := fun i j a ei ej h1 _ h3 _ _ _ => by
    unfold hideO at h1
    rw [List.getElem?_map] at h1
    obtain ⟨e, _, rfl⟩ := Option.map_eq_some_iff.mp h1
    rw [En.hide_ow] at h3
    cases h3
  so := fun i e b h hb => by
    unfold hideO at h
    rw [List.getElem?_map] at h
    obtain ⟨e, _, rfl⟩ := Option.map_eq_some_iff.mp h
    cases e <;> cases hb
  en := fun i e x h1 h2 => by
    unfold hideO at h1
    rw [List.getElem?_map] at h1
    obtain ⟨e, he, rfl⟩ := Option.map_eq_some_iff.mp h1
    have h3 := A.en i e x he h2
    cases e with
    | fz d =>
      cases x with
      | none => exact h3.elim
      | some v => exact Dd.keep (fun a o _ h => h) (fun a h => n_nil.mp h) h3
    | _ => exact trivial
abbrev ErCl := List (Addr × Str × Option Str)
def ErCl.has (ec : ErCl) (e : Er) : Prop := (e.C, e.w, e.f.map (·.1)) ∈ ec ∧ ∀ p, e.f = some p → p.2.leaf = true
def Er.val (e : Er) : D := match e.f with | none => .non | some p => p.2
def dTry (ec : ErCl) (d : (Er → Prop) → TDE) : TDE := fun env P => d (fun e => ec.has e ∧ P (.tup [.str e.w, e.val])) (hideO env) fun x => P (.tup [.str "value", x])
structure ClOk (K : PySem.W.Frag) (CD CM CL : Addr) (k : Addr × Str × Option Str) : Prop where
  xf : XfC K k.1
  nw : PySem.W.findIn K (.ref k.1) "word" = some none
  ct : (PySem.W.exmAny K (.ref k.1) [.ref CD, .ref CM] = some true ∧ fieldName k.2.1 = k.2.2 ∧ ∀ n, k.2.2 = some n → n ≠ "word" ∧ PySem.W.findIn K (.ref k.1) n = some none) ∨
    (PySem.W.exmAny K (.ref k.1) [.ref CD, .ref CM] = some false ∧ PySem.W.exmAny K (.ref k.1) [.ref CL] = some true ∧ k.2.2 = none)
theorem er_word {e : Er} (h : ∀ p, e.f = some p → p.1 ≠ "word") : e.fs.lookup ("word" : Str) = some (.str e.w) := by
  unfold Er.fs
  cases q : e.f with
  | none => rfl
  | some p =>
    obtain ⟨f, d⟩ := p
    have n : ((Str.ofString "word") == f) = false := by
      cases z : ((Str.ofString "word") == f) with
      | false => rfl
      | true => exact (h _ q (eq_of_beq z).symm).elim
    show List.lookup (Str.ofString "word") ([(f, lfV d), ("word", V.str e.w)] : List (Str × V)) = _
    simp [List.lookup, n]
theorem lf_dd {K : PySem.W.Frag} {N : Addr → Prop} {W : Wd} {H : Hp} : ∀ {d : D}, d.leaf = true → Dd K N W H (lfV d) d
  | .non, _ => .non
  | .bl b, _ => .bl b
  | .int i, _ => .int i
  | .str x, _ => .str x
theorem sn_keep {W : Wd} {H H' : Hp} (h : Sn H H') : KeepW W H H' := fun a o _ q => h.f a o q
theorem sn_ok {W : Wd} {H H' : Hp} (k : W.ok H) (h : Sn H H') : W.ok H' := Wd.st k (fun a o q _ => h.f a o q) h.n
theorem ext_ok {b s : Addr} {T : List (Addr × Str)} (k : Wd.ok (some (b, s, T)) H) (ne : T ≠ []) (e : ExtN H H') (n : NoT H H') (t : Tabs T H') : Wd.ok (some (b, s, T)) H' := by
  obtain ⟨B, _, nt⟩ := k
  obtain ⟨ns, i, big, salt, B⟩ := B
  refine ⟨⟨ns, i, big, salt, e _ _ B.hb (fun ps z => by cases z), e _ _ B.hs (fun ps z => by cases z), B.ne, B.hi, B.hn, B.h0, B.h1, B.h2⟩, t, fun _ a ps h => ?_⟩
  obtain ⟨qs, h⟩ := n a ps h
  exact nt ne a qs h
theorem ext_keep {b s : Addr} {T : List (Addr × Str)} (k : Wd.ok (some (b, s, T)) H) (ne : T ≠ []) (e : ExtN H H') : KeepW (some (b, s, T)) H H' := fun a o nw h => e a o h fun ps z => by
  subst z
  obtain ⟨p, hp, e⟩ := k.2.2 ne a ps h
  exact nw (.inr (.inr ⟨p, hp, e⟩))
variable {ec : ErCl} {d : (Er → Prop) → TDE} {CD CM CL : Addr} {b s : Addr} {T : List (Addr × Str)}
def tTryB (F : Fx) (d : (Er → Prop) → TDE) (E : XK) : TE := fun σ H Q => ∃ (N0 : Addr → Prop) (H0 : Hp) (PX : Er → Prop), ErOk ⟨F.K, F.W, N0, H0, false⟩ PX E ∧ lC ⟨F.K, F.W, N0, H0, false⟩ (d PX) σ H Q
theorem tryB_of {X : Cx} {e : Expr} {E : XK} (h : ∀ (N0 : Addr → Prop) (H0 : Hp) (PX : Er → Prop), ErOk ⟨F.K, F.W, N0, H0, false⟩ PX E → PE X e (lC ⟨F.K, F.W, N0, H0, false⟩ (d PX))) : PE X e (tTryB F d E) :=
  ⟨fun pins s σ H Q I ⟨N0, H0, PX, hE, q⟩ => (h N0 H0 PX hE).run pins s σ H Q I q⟩
theorem l_try (hW : F.W = some (b, s, T)) (ne : T ≠ []) (hc : ∀ k ∈ ec, ClOk F.K CD CM CL k) : ∀ σ H Q, lN F (dTry ec d) σ H Q → tLamT T (TTry F.K CD CM CL) (tTryB F d) σ H Q := fun σ H Q ⟨env, L, P, A, p, q⟩ => by
  have ok := A.ok
  rw [hW] at ok
  refine ⟨ok.2.1, fun H1 eN nT t1 => ?_⟩
  have ok1 : F.W.ok H1 := by rw [hW]; exact ext_ok ok ne eN nT t1
  have k1 : KeepW F.W H H1 := by rw [hW]; exact ext_keep ok ne eN
  have A1 := A.step k1 ok1
  have B1 := A1.hid
  have fin : ∀ {H2 : Hp} {t : Addr} {w : Str} {v : V} {x : D}, KeepW F.W H1 H2 → F.W.ok H2 → H2 t = none → Dd F.K (F.N L) F.W H2 v x → P (.tup [.str w, x]) → Q (.ref t) (upd H2 t (.tup [.str w, v])) := fun {H2 t w v x} k2 o2 nt d2 px => by
    have k := k1.trans k2
    refine q _ t _ px (k.trans (.new nt)) (ok_new o2 nt) (free_of k o2 nt) (new_tupN (A.step k o2) nt (.cons (.str w) (.cons d2 .nil)))
  refine ⟨F.N L, H1, _, fun er dx H2 ⟨⟨hm, hl⟩, hP⟩ k2 o2 n2 hx => ?_, hideO env, [], _, B1, p, fun x v H2 px k2 o2 d2 => ⟨by show 2 ≤ sizeLine; decide, fun t nt => fin k2 o2 nt (d2.keep (fun _ _ _ h => h) fun a h => n_nil.mpr h) px⟩⟩
  have c := hc _ hm
  have wd : ∀ p, er.f = some p → p.1 ≠ "word" := fun p hp => by
    rcases c.ct with ⟨_, _, c3⟩ | ⟨_, _, c3⟩
    · exact (c3 p.1 (by show er.f.map _ = _; rw [hp]; rfl)).1
    · have c3 : er.f.map (·.1) = none := c3
      rw [hp] at c3
      cases c3
  have hv : Dd F.K (F.N L) F.W H2 (lfV er.val) er.val := by
    unfold Er.val
    cases hf : er.f with
    | none => exact .non
    | some p => exact lf_dd (hl p hf)
  refine ⟨er.C, dx, er.fs, er.w, ⟨rfl, rfl, c.xf, c.nw, hx, er_word wd⟩, ?_⟩
  rcases c.ct with ⟨c1, c2, c3⟩ | ⟨c1, c2, c3⟩
  · refine .inl ⟨c1, lfV er.val, ?_, fun H3 t s3 nt => fin (k2.trans (sn_keep s3)) (sn_ok o2 s3) nt (hv.keep (fun a o _ h => s3.f a o h) fun _ h => h) hP⟩
    unfold FieldOf
    rw [show fieldName er.w = er.f.map (·.1) from c2]
    unfold Er.fs Er.val
    cases hf : er.f with
    | none => rfl
    | some p =>
      obtain ⟨f, d⟩ := p
      refine ⟨(c3 f (by show er.f.map _ = _; rw [hf]; rfl)).2, ?_⟩
      show ([(f, lfV d), ("word", V.str er.w)] : List (Str × V)).lookup f = _
      simp [List.lookup]
  · refine .inr ⟨c1, c2, fun t nt => ?_⟩
    have e0 : er.val = .non := by
      have c3 : er.f.map (·.1) = none := c3
      unfold Er.val
      cases hf : er.f with
      | none => rfl
      | some p => rw [hf] at c3; cases c3
    have z := fin (w := er.w) k2 o2 nt hv hP
    rw [e0] at z
    exact z
end
end DL
namespace RK
open PySem PySem.Spec PyProof.Rows L2 LamX
variable {P : Program} {w : World} {K : PySem.W.Frag} {mg : Str → Option Value}
abbrev tab0 : Obj := { cls := .none, data := .fields #[] }
structure OnlyT (cs : List (Addr × Addr)) (H : Hp) : Prop where
  tb : ∀ p ∈ cs, H p.2 = some (.tbl #[])
  on : ∀ b, H b = none ∨ (∃ p ∈ cs, p.2 = b) ∨ ∃ o xs, H b = some (.frz o (.lst xs))
structure TabW (h : Heap) (K : PySem.W.Frag) (cs : List (Addr × Addr)) : Prop where
  e : ∀ p ∈ cs, h.get? p.2 = some tab0
  n : ∀ p ∈ cs, K.lookup p.2 = none
  c : ∀ p ∈ cs, PySem.W.codeHdIn K p.1 p.2 = true
theorem law_coreT {mb : Str → Option Value} {CX : CXT} {fa a : Addr} {cs : List (Addr × Addr)} {fd : FuncData} {x : Str} {sp : Sp} {s1 : Shared} {vs : List Value} {H : Hp}
    (KX : K.In s1.heap) (hns : s1.heap.Ns mainGlobals mg) (hb : s1.heap.Ns builtinsNs mb) (hbb : ∀ x : Str, x ≠ "__name__" → mb x = bootBuiltins x) (hlim : s1.heap.NoLimit) (hg : s1.gens = #[])
    (tw : TabW s1.heap K cs) (bm : ∃ (bm : Addr) (ob : Obj), mg "__builtins__" = some (.ref bm) ∧ bm ≠ builtinsNs ∧ s1.heap.get? bm = some ob ∧ ob.cls = .type "module" ∧ ob.dict = some builtinsNs ∧ ob.data = .plain)
    (ha : s1.heap.get? a = some { cls := .type "list", data := .seq vs.toArray }) (F : ∀ bs : Heap, K.In bs → bs.Ns mainGlobals mg → (∀ p ∈ cs, TabB bs mg p.1 p.2) → FnAt P w K mg bs CX callerA fa fd [x] sp) (hbind : ∀ (s : Shared) (u : Value), BindsTo s fd ⟨[u], []⟩ [(x, u)])
    (hCX : ∀ H e s', CX [] H s1 (fun _ _ _ => False) e s' → False) (hO : OnlyT cs H) (hsp : sp [.ref a] H (fun v _ => v = .bl true) fun _ _ _ => False) (hok : HOk P w H s1.heap) (one : ∀ b, H b ≠ none → (b = a ∧ K.lookup a = none) ∨ ∃ p ∈ cs, p.2 = b) :
    codeAny (model P w) callerA (.call (.ref fa) ⟨[.ref a], []⟩) (fun r s' => r = .ok (.ret (.bool true)) ∧ OldK s1.heap s'.heap ∧ s'.os = s1.os ∧ AllBare s'.gens) s1 := by
  have isT : ∀ b, (∃ p ∈ cs, p.2 = b) → s1.heap.get? b = some tab0 ∧ K.lookup b = none := fun b ⟨p, hp, e⟩ => e ▸ ⟨tw.e p hp, tw.n p hp⟩
  have un : ∀ {b : Addr} {o : Obj}, s1.heap.get? b = some o → o ≠ { cls := .type "list", data := .seq vs.toArray } → o ≠ tab0 → H b = none := fun {b o} e n1 n2 => by
    refine Classical.byContradiction fun z => ?_
    rcases one b z with ⟨q, _⟩ | q
    · rw [q, ha] at e
      exact n1 (Option.some.inj e).symm
    · rw [(isT b q).1] at e
      exact n2 (Option.some.inj e).symm
  have ns : ∀ {b : Addr} {m : Str → Option Value}, s1.heap.Ns b m → (hidT s1.heap H).Ns b m := fun {b m} ⟨o, es, ep, e, d, r⟩ => ⟨o, es, ep, hidT_get e (un e (fun z => by rw [z] at d; cases d) fun z => by rw [z] at d; cases d), d, r⟩
  have kin : K.In (hidT s1.heap H) := fun b o e => hidT_get (KX b o e) (Classical.byContradiction fun z => by
    rcases one b z with ⟨q, q2⟩ | q
    · rw [← q, e] at q2
      cases q2
    · rw [(isT b q).2] at e
      cases e)
  have md : Mod K mg (hidT s1.heap H) := ⟨kin, ns hns, ⟨mb, ns hb, hbb⟩, (let ⟨mc, h1, h2⟩ := hlim; ⟨mc, ns h1, h2⟩)⟩
  have tabs : ∀ p ∈ cs, TabB (hidT s1.heap H) mg p.1 p.2 := fun p hp => by
    obtain ⟨og, es, ep, eg, dg, rg⟩ := hns
    have e0 := tw.e p hp
    refine NdefX.tabB_of_K kin (tw.c p hp) ?_ fun z => ?_
    · obtain ⟨bm, ob, b1, b2, b3, b4, b5, b6⟩ := bm
      refine ⟨bm, ob, b1, b2, fun z => ?_, fun z => ?_, hidT_get b3 (un b3 (fun z => by rw [z] at b6; cases b6) fun z => by rw [z] at b6; cases b6), b4, b5, b6⟩
      · rw [z, eg] at b3
        cases b3
        rw [dg] at b6
        cases b6
      · rw [z, e0] at b3
        cases b3
        cases b6
    · rw [z, e0] at eg
      cases eg
      cases dg
  have env : Env0 P w K mg (hidT s1.heap H) callerA [] s1 H := { frames := rfl, mod := md, bs := fun b o e => of_hidT e, bsz := Nat.le_of_eq (hidT_size _ _), funs := trivial, frf := fun b hb => (by cases hb), hok := hok, bare := .of_eq hg }
  refine codeAny_mono (F _ kin (ns hns) tabs [] s1 H ⟨[.ref a], []⟩ [.ref a] [.ref a] _ _ env (hbind s1 (.ref a)) (.cons rfl .nil) hsp) fun r s' h => ?_
  match r, h with
  | .error e, h => exact (hCX H e s' h).elim
  | .ok (.ret u), ⟨v, H', os, bare, u', hok', rv, q⟩ =>
    cases (show v = .bl true from q)
    cases (show u = Value.bool true from rv)
    have kept : ∀ b o, (¬ ∃ p ∈ cs, p.2 = b) → s1.heap.get? b = some o → s'.heap.get? b = some o := fun b o nb e => by
      rcases hO.on b with z | z | ⟨ob, xs, z⟩
      · exact u'.keep b o e z (fun y => (by cases y)) (by simp)
      · exact (nb z).elim
      · have e1 := (hok b _ z).1
        have e2 := (hok' b _ (u'.frzs b ob _ z)).1
        rw [e] at e1
        cases e1
        exact e2
    have grow : ∀ p ∈ cs, ∃ ps : Array Value, s'.heap.get? p.2 = some { cls := .none, data := .fields ps } := fun p hp => (let ⟨more, z⟩ := u'.tbls p.2 #[] (hO.tb p hp); ⟨_, hok' p.2 _ z⟩)
    refine ⟨rfl, ⟨fun b o e => ?_, fun b o e => ?_⟩, os, bare⟩
    · rcases Classical.em (∃ p ∈ cs, p.2 = b) with ⟨p, hp, eb⟩ | nb
      · subst eb
        obtain ⟨ps, hps⟩ := grow p hp
        rw [tw.e p hp] at e
        cases e
        exact .inr (.inl ⟨((PySem.W.codeHd_of_K KX (tw.c p hp)).tab (tw.e p hp)).isCodeTable, rfl, #[], ps, rfl, by rw [Array.empty_append]; exact hps⟩)
      · exact .inl (kept b o nb e)
    · rcases Classical.em (∃ p ∈ cs, p.2 = b) with ⟨p, hp, eb⟩ | nb
      · subst eb
        obtain ⟨ps, hps⟩ := grow p hp
        exact ⟨_, hps⟩
      · exact ⟨o, kept b o nb e⟩
  | .ok .next, h => exact False.elim h
  | .ok .brk, h => exact False.elim h
  | .ok .cont, h => exact False.elim h
theorem law_atT {mb : Str → Option Value} {CX : CXT} {fa a : Addr} {cs : List (Addr × Addr)} {fd : FuncData} {x : Str} {sp : Sp} {s1 : Shared} {vs : List Value} {ns : List Int}
    (KX : K.In s1.heap) (hns : s1.heap.Ns mainGlobals mg) (hb : s1.heap.Ns builtinsNs mb) (hbb : ∀ x : Str, x ≠ "__name__" → mb x = bootBuiltins x) (hlim : s1.heap.NoLimit) (hg : s1.gens = #[])
    (tw : TabW s1.heap K cs) (bm : ∃ (bm : Addr) (ob : Obj), mg "__builtins__" = some (.ref bm) ∧ bm ≠ builtinsNs ∧ s1.heap.get? bm = some ob ∧ ob.cls = .type "module" ∧ ob.dict = some builtinsNs ∧ ob.data = .plain)
    (ha : s1.heap.get? a = some { cls := .type "list", data := .seq vs.toArray }) (hi : IntsAre vs ns) (hl : ns.length ≤ sizeLine) (F : ∀ bs : Heap, K.In bs → bs.Ns mainGlobals mg → (∀ p ∈ cs, TabB bs mg p.1 p.2) → FnAt P w K mg bs CX callerA fa fd [x] sp) (hbind : ∀ (s : Shared) (u : Value), BindsTo s fd ⟨[u], []⟩ [(x, u)])
    (hsp : ∀ H : Hp, OnlyT cs H → SqL K H a (ns.map V.int) → sp [.ref a] H (fun v _ => v = .bl true) fun _ _ _ => False) (hCX : ∀ H e s', CX [] H s1 (fun _ _ _ => False) e s' → False) :
    codeAny (model P w) callerA (.call (.ref fa) ⟨[.ref a], []⟩) (fun r s' => r = .ok (.ret (.bool true)) ∧ OldK s1.heap s'.heap ∧ s'.os = s1.os ∧ AllBare s'.gens) s1 := by
  classical
  have rv := vals_ints hi
  have lv := hi.length
  have isT : ∀ b, (∃ p ∈ cs, p.2 = b) → s1.heap.get? b = some tab0 := fun b ⟨p, hp, e⟩ => e ▸ tw.e p hp
  have aT : ¬ ∃ p ∈ cs, p.2 = a := fun z => by
    have q := isT a z
    rw [ha] at q
    cases q
  let T : Hp := fun b => if (∃ p ∈ cs, p.2 = b) then some (.tbl #[]) else none
  have hT : ∀ b, (T b = none ∧ ¬ ∃ p ∈ cs, p.2 = b) ∨ ((∃ p ∈ cs, p.2 = b) ∧ T b = some (.tbl #[])) := fun b => by
    by_cases h : ∃ p ∈ cs, p.2 = b
    · exact .inr ⟨h, if_pos h⟩
    · exact .inl ⟨if_neg h, h⟩
  have tT : ∀ p ∈ cs, T p.2 = some (.tbl #[]) := fun p hp => if_pos ⟨p, hp, rfl⟩
  have okT : ∀ b u, T b = some u → ObjOk P w T s1.heap b u := fun b u z => by
    rcases hT b with ⟨h, _⟩ | ⟨e, h⟩
    · rw [h] at z; cases z
    · rw [h] at z; cases z; exact isT b e
  cases hk : K.lookup a with
  | some o =>
    have e := KX a o hk
    rw [ha] at e
    cases e
    have hO : OnlyT cs T := ⟨tT, fun b => (hT b).elim (fun h => .inl h.1) fun h => .inr (.inl h.1)⟩
    refine law_coreT KX hns hb hbb hlim hg tw bm ha F hbind hCX hO (hsp _ hO (.inr ⟨_, vs.toArray, _, hk, rfl, rfl, rfl, ?_, ?_⟩)) okT (fun b z => (hT b).elim (fun h => (z h.1).elim) fun h => .inr h.1)
    · rw [List.size_toArray, lv]
      exact hl
    · rw [List.toList_toArray]
      exact rv
  | none =>
    let ob : Obj := { cls := .type "list", data := .seq vs.toArray }
    let H : Hp := fun b => if b = a then some (.frz ob (.lst (ns.map V.int))) else T b
    have hH : ∀ b, (b ≠ a ∧ H b = T b) ∨ (b = a ∧ H b = some (.frz ob (.lst (ns.map V.int)))) := fun b => by
      by_cases h : b = a
      · exact .inr ⟨h, if_pos h⟩
      · exact .inl ⟨h, if_neg h⟩
    have hO : OnlyT cs H := ⟨fun p hp => (hH p.2).elim (fun h => h.2.trans (tT p hp)) fun h => (aT ⟨p, hp, h.1⟩).elim, fun b => (hH b).elim (fun h => by rw [h.2]; exact (hT b).elim (fun h => .inl h.1) fun h => .inr (.inl h.1)) fun h => .inr (.inr ⟨_, _, h.2⟩)⟩
    refine law_coreT KX hns hb hbb hlim hg tw bm ha F hbind hCX hO (hsp H hO (.inl (.inr ⟨ob, if_pos rfl⟩))) (fun b u z => ?_) (fun b z => ?_)
    · rcases hH b with ⟨_, h⟩ | ⟨e, h⟩
      · rw [h] at z
        rcases hT b with ⟨q, _⟩ | ⟨e, q⟩
        · rw [q] at z; cases z
        · rw [q] at z; cases z; exact isT b e
      · rw [h] at z
        cases z
        subst e
        exact ⟨ha, by rw [List.length_map]; exact hl, vs, _, rv, ha⟩
    · rcases hH b with ⟨_, h⟩ | ⟨e, _⟩
      · rw [h] at z
        exact (hT b).elim (fun h => (z h.1).elim) fun h => .inr h.1
      · exact .inl ⟨e, hk⟩
theorem walk_atT {l : PySem.W.OpenLaw} {n : Nat} {q : Program} {loose : List Str} {XP : (Str → Option Value) → Heap → Prop} {YP : World → Heap → Prop} {d : DefRec} {K : Params → PySem.W.Frag} {CX : World → CXT} {sp : World → List (Addr × Addr) → Sp} {x : Str}
    (hn : l.most = some n) (hn2 : n ≤ sizeLine) (hdf : d.params.defaults = []) (hY : ∀ (w : World) (h : Heap), YP w h → (K w.params).In h)
    (F : ∀ (w : World) (mg : Str → Option Value) (fa : Addr) (h : Heap), YP w h → (K w.params).In h → h.Ns mainGlobals mg → mg d.name = some (.ref fa) → ∃ (fd : FuncData) (cs : List (Addr × Addr)), (∀ p ∈ cs, h.get? p.2 = some tab0) ∧ (∀ p ∈ cs, (K w.params).lookup p.2 = none) ∧ (∀ p ∈ cs, PySem.W.codeHdIn (K w.params) p.1 p.2 = true) ∧ (∀ (s : Shared) (u : Value), BindsTo s fd ⟨[u], []⟩ [(x, u)]) ∧
      ∀ bs : Heap, (K w.params).In bs → bs.Ns mainGlobals mg → (∀ p ∈ cs, TabB bs mg p.1 p.2) → FnAt l.prog w (K w.params) mg bs (CX w) callerA fa fd [x] (sp w cs))
    (hsp : ∀ (w : World) (cs : List (Addr × Addr)) (H : Hp) (a : Addr) (ns : List Int), ns.length ≤ n → OnlyT cs H → SqL (K w.params) H a (ns.map V.int) → sp w cs [.ref a] H (fun v _ => v = .bl true) fun _ _ _ => False)
    (hCX : ∀ (w : World) (H : Hp) (s : Shared) (e : Value) (s' : Shared), CX w [] H s (fun _ _ _ => False) e s' → False) :
    PySem.W.WalkO q loose XP YP l.row.toRowW d [] (fun f vs => PySem.call f vs) :=
  Att.attach_call hn hdf fun w s0 s1 mg mb fa o pm cd doc a vs ns G Y ho hd hcd hmg hobj hints hlen hg => by
    obtain ⟨fd, cs, t1, t2, t3, hb, hF⟩ := F w mg fa _ Y (hY w _ Y) G.T.g hmg
    exact law_atT (hY w _ Y) G.T.g G.T.b G.T.builtins G.T.nolimit hg ⟨t1, t2, t3⟩ G.T.bmain hobj hints (Nat.le_trans hlen hn2) hF hb (fun H hO hS => hsp w cs H a ns hlen hO hS) fun H e s' => hCX w H s1 e s'
end RK
namespace DL
open PySem PySem.Spec PyProof.Rows L2 RK LamX
section
variable {P : Program} {w : World} {K : PySem.W.Frag} {mg : Str → Option Value} {base : Heap} {k : Nat} {f : Addr} {fd : FuncData} {ps : List Str}
theorem fn_atC {x qual : Str} {st : Stmt} {kV doc pm cdv ct oc : Value} {an od : Option Addr} {osl : Array (Option Value)} {N : List Str} {sp : Sp} {A : Around} (lk : K.lookup f = some ⟨oc, od, .func (PySem.W.fnOf x qual (defArgs st) (defBody st) (defScope st) .none kV doc pm an cdv ct), osl⟩) (hcd : PySem.W.codeIn K cdv qual = true)
    (S : FnScope N ps (defScope st)) (hr : Room (k + 1) A) (len : ∀ vs H Q E, sp vs H Q E → vs.length = ps.length)
    (hbody : ∀ (outer : List Env) (s : Shared) (H : Hp) (vs : List V) (Q : VK) (E : XK), Room k (A.deeper (envOfC qual (defScope st) s.heap.objs.size f cdv)) → sp vs H Q E → ∃ t, PSs (cxOf CX0 P w K mg base N qual (defScope st) f cdv A outer s H E).nox (defBody st) t ∧ t { nx := fun _ H' => Q .non H', rt := Q } (start N vs) H) :
    FnAt P w K mg base CX0 A f (PySem.W.fnOf x qual (defArgs st) (defBody st) (defScope st) .none kV doc pm an cdv ct) ps sp :=
  fn_at hr lk hcd S len fun outer s H vs Q E hsp => (let ⟨t, h, q⟩ := hbody outer s H vs Q E (hr.deeper _) hsp; ⟨t, h.nox, q⟩)
end
section
variable {X : Cx} {F : Fx} {dk : TDA} {pos p : Pos} {CX : CXT} {k : Nat} {f : Addr} {fd : FuncData} {ps ks : List Str} {sp : DSpX} {E : XK} {x : Str} {fr : Fr} {K : PySem.W.Frag} {PX : Er → Prop}
end
def spBagT (K : PySem.W.Frag) : Sp := fun vs H Q _ => ∃ (a : Addr) (ns : List Int), vs = [.ref a] ∧ SqL K H a (ns.map V.int) ∧ ns.length ≤ 63 ∧ ∀ H' b s, Sn H H' → H b = none → H s = none → Bag b s H' → Q (.ref b) H'
def spLawT (K : PySem.W.Frag) (cs : List (Addr × Addr)) : Sp := fun vs H Q _ => ∃ (a : Addr) (ns : List Int), vs = [.ref a] ∧ OnlyT cs H ∧ SqL K H a (ns.map V.int) ∧ ns.length ≤ 63 ∧ ∀ H', Q (.bl true) H'
abbrev lamT (cs : List (Addr × Addr)) (q : Str) : List (Addr × Str) := cs.map fun p => (p.2, q)
theorem pss_exT {X : Cx} {K : PySem.W.Frag} {T : List (Addr × Str)} {sts : List Stmt} {d : TDS} (h : ∀ b s N0 H0, PSs X sts (lS ⟨K, some (b, s, T), N0, H0, false⟩ d)) : PSs X sts (fun E σ H => ∃ b s N0 H0, lS ⟨K, some (b, s, T), N0, H0, false⟩ d E σ H) := ⟨fun pins s σ H E I ⟨b, s0, N0, H0, q⟩ => (h b s0 N0 H0).run pins s σ H E I q⟩
theorem law_bagT {K : PySem.W.Frag} {Q : VK} {d : TDS} {H H' : Hp} {a b s : Addr} {n : Nat} {cs : List (Addr × Addr)} {qn : Str} (hO : OnlyT cs H) (e : Sn H H') (nb : H b = none) (B : Bag b s H') (q : ∀ H', Q (.bl true) H') (h : d { nx := fun _ => False, rt := fun x => x = .bl true } (.no :: .fz .bag :: List.replicate n .no)) :
    ∃ b' s' N0 H0, lS ⟨K, some (b', s', lamT cs qn), N0, H0, false⟩ d { nx := fun _ H' => Q .non H', rt := Q } (some (.ref a) :: some (.ref b) :: List.replicate n none) H' := by
  have ok : Wd.ok (some (b, s, lamT cs qn)) H' := by
    refine ⟨B, fun p hp => ?_, fun _ a ps h => ?_⟩
    · obtain ⟨r, hr, rfl⟩ := List.mem_map.mp hp
      exact TabS.nil (e.f _ _ (hO.tb r hr))
    · obtain ⟨qs, h1⟩ := e.n a ps h
      rcases hO.on a with z | ⟨r, hr, z⟩ | ⟨o, xs, z⟩
      · rw [h1] at z; cases z
      · exact ⟨(r.2, qn), List.mem_map.mpr ⟨r, hr, rfl⟩, z⟩
      · rw [h1] at z; cases z
  refine ⟨b, s, fun z => Wd.own (some (b, s, lamT cs qn)) z, H', _, [], _, ?_, h, fun _ _ _ _ z => z.elim, fun x v H2 hx r => ?_, fun _ _ _ _ z => z.elim, fun _ _ _ _ z => z.elim⟩
  · refine ⟨ok, fun z hz => Wd.al ok hz, fun z hz => hz, .refl _ _, fun z hz => (by cases hz), ?_, fun i j z ei ej h1 h2 o1 o2 _ _ => ?_, so_law, fun i e x h1 h2 => ?_⟩
    · simp
    · exfalso
      match i, h1 with
      | 0, h1 => cases h1; cases o1
      | 1, h1 => cases h1; cases o1
      | i + 2, h1 =>
        rw [List.getElem?_cons_succ, List.getElem?_cons_succ] at h1
        rw [(List.mem_replicate.mp (List.mem_of_getElem? h1)).2] at o1
        cases o1
    · match i, h1, h2 with
      | 0, h1, h2 => cases h1; trivial
      | 1, h1, h2 =>
        cases h1
        cases h2
        exact .bag rfl
      | i + 2, h1, h2 =>
        rw [List.getElem?_cons_succ, List.getElem?_cons_succ] at h1
        rw [(List.mem_replicate.mp (List.mem_of_getElem? h1)).2]
        trivial
  · subst hx
    have := dd_blE r.dd
    subst this
    exact q H2
theorem cl_nil {K : PySem.W.Frag} {CD CM CL : Addr} : ∀ k ∈ ([] : ErCl), ClOk K CD CM CL k := fun k h => by cases h
theorem cl_cons {K : PySem.W.Frag} {CD CM CL : Addr} {k : Addr × Str × Option Str} {l : ErCl} (h : ClOk K CD CM CL k) (t : ∀ k ∈ l, ClOk K CD CM CL k) : ∀ x ∈ k :: l, ClOk K CD CM CL x := fun x hx => (List.mem_cons.mp hx).elim (fun e => e ▸ h) (t x)
theorem cl_0 {K : PySem.W.Frag} {CD CM CL C : Addr} {w : Str} (xf : XfC K C) (nw : PySem.W.findIn K (.ref C) "word" = some none) (xm : PySem.W.exmAny K (.ref C) [.ref CD, .ref CM] = some true) (hw : fieldName w = none := by decide +kernel) : ClOk K CD CM CL (C, w, none) := ⟨xf, nw, .inl ⟨xm, hw, fun n h => by cases h⟩⟩
theorem cl_1 {K : PySem.W.Frag} {CD CM CL C : Addr} {w n : Str} (xf : XfC K C) (nw : PySem.W.findIn K (.ref C) "word" = some none) (nn : PySem.W.findIn K (.ref C) n = some none) (xm : PySem.W.exmAny K (.ref C) [.ref CD, .ref CM] = some true) (hw : fieldName w = some n := by decide +kernel) (ne : n ≠ "word" := by decide +kernel) : ClOk K CD CM CL (C, w, some n) := ⟨xf, nw, .inl ⟨xm, hw, fun m h => by cases h; exact ⟨ne, nn⟩⟩⟩
theorem cl_L {K : PySem.W.Frag} {CD CM CL C : Addr} {w : Str} (xf : XfC K C) (nw : PySem.W.findIn K (.ref C) "word" = some none) (xm : PySem.W.exmAny K (.ref C) [.ref CD, .ref CM] = some false) (xn : PySem.W.exmAny K (.ref C) [.ref CL] = some true) : ClOk K CD CM CL (C, w, none) := ⟨xf, nw, .inr ⟨xm, xn, rfl⟩⟩
structure Cls where
  Desk : Addr := 0
  Tale : Addr := 0
  Flow : Addr := 0
  Log : Addr := 0
  Session : Addr := 0
  Console : Addr := 0
  BadName : Addr := 0
  BadRectangle : Addr := 0
  BadSize : Addr := 0
  BadOrder : Addr := 0
  BadStep : Addr := 0
  TooLong : Addr := 0
  BadWish : Addr := 0
  BadFact : Addr := 0
  BadCost : Addr := 0
  Impossible : Addr := 0
  BadStamp : Addr := 0
  Taken : Addr := 0
  Clash : Addr := 0
  OtherLog : Addr := 0
  Full : Addr := 0
  BadDeed : Addr := 0
  BadWatch : Addr := 0
  BadText : Addr := 0
  BadPage : Addr := 0
  Unknown : Addr := 0
  NoStamp : Addr := 0
  NoWatch : Addr := 0
  NothingLeft : Addr := 0
end DL
namespace RK
open PySem PySem.Spec PyProof.Rows L2
open PySem.Sem (wp)
inductive Out : Value → Prop
  | no : Out .none
  | num (T : Addr) : Out (rawInt T)
abbrev ZR (h : Heap) (z : Addr) (o f : Value) (p q : Addr) : Prop :=
  h.get? z = some { cls := .type "zip", dict := none, data := .fields #[o, f, .bool false, .ref p, .ref q], slots := #[] }
theorem lives {prog : Program} {w : World} {A : Around} {E : Value → Shared → Prop} {s : Shared} {t : Addr} {Q : Option Obj → Shared → Prop} (h : Q (s.heap.get? t) s) : wpAny (model prog w) A (loadIfAlive t) Q E s := fun _ _ _ => h
theorem raised {prog : Program} {w : World} {A : Around} {E : Value → Shared → Prop} {s : Shared} {z e p q : Addr} {o f : Value} {Q : Unit → Shared → Prop} (r : ZR s.heap z o f p q) (x : ∃ u, s.heap.get? e = some u ∧ u.cls = .type "StopIteration")
    (k : ∀ h', Heap.SameBut z s.heap h' → (∃ u, h'.get? e = some u ∧ u.cls = .type "StopIteration") → Q () { s with heap := h' }) : wpAny (model prog w) A (setField (.ref z) 0 .none) Q E s :=
  wpAny_setField_rec r (by simp) fun h' _ k1 => k h' k1 (by
    obtain ⟨u, e1, e2⟩ := x
    refine ⟨u, k1.extBut _ _ (fun y => ?_) e1, e2⟩
    subst y
    rw [r] at e1
    cases e1
    exact absurd (show Value.type "zip" = .type "StopIteration" from e2) (by decide))
section
variable {prog : Program} {w : World} {A : Around} {E : Value → Shared → Prop} {z TI TO i1 i2 : Addr} {fp1 fp2 : List Addr} {n1 n2 : Nat} {P1 P2 : Nat → Value → Prop} {St1 St2 : Nat → Heap → Prop}
structure Zs (z TI TO i1 i2 : Addr) (St1 St2 : Nat → Heap → Prop) (h0 : Heap) (m : Nat) (o : Value) (f : Bool) (j1 j2 : Nat) (a b : Value) (h : Heap) : Prop where
  rcd : ZR h z o (.bool f) TI TO
  ins : IsPair h TI (.ref i1) (.ref i2)
  out : IsPair h TO a b
  s1 : St1 j1 h
  s2 : St2 j2 h
  num : h.objs.size = m
  rest : ∀ c u, c ≠ z → c ≠ TO → c ≠ i1 → c ≠ i2 → h0.get? c = some u → h.get? c = some u
variable (S : ZipSep2 z TI TO i1 i2 fp1 fp2) (D1 : Draws prog w A i1 fp1 n1 P1 St1) (D2 : Draws prog w A i2 fp2 n2 P2 St2)
variable {h0 h h' : Heap} {m : Nat} {o o' : Value} {f f' : Bool} {j1 j2 : Nat} {a b a' b' : Value}
include S D1 D2
theorem Zs.note (q : Zs z TI TO i1 i2 St1 St2 h0 m o f j1 j2 a b h) (k : Heap.SameBut z h h') (r : ZR h' z o' (.bool f') TI TO) : Zs z TI TO i1 i2 St1 St2 h0 m o' f' j1 j2 a b h' :=
  ⟨r, k.extBut _ _ S.TIz q.ins, k.extBut _ _ S.TOz q.out, D1.over q.s1 k S.zf1, D2.over q.s2 k S.zf2, k.1.trans q.num, fun c u e1 e2 e3 e4 x => k.extBut _ _ e1 (q.rest c u e1 e2 e3 e4 x)⟩
theorem Zs.write (q : Zs z TI TO i1 i2 St1 St2 h0 m o f j1 j2 a b h) (k : Heap.SameBut TO h h') (r : IsPair h' TO a' b') : Zs z TI TO i1 i2 St1 St2 h0 m o f j1 j2 a' b' h' :=
  ⟨k.extBut _ _ S.TOz.symm q.rcd, k.extBut _ _ S.TITO q.ins, r, D1.over q.s1 k S.Tf1, D2.over q.s2 k S.Tf2, k.1.trans q.num, fun c u e1 e2 e3 e4 x => k.extBut _ _ e2 (q.rest c u e1 e2 e3 e4 x)⟩
theorem Zs.one (q : Zs z TI TO i1 i2 St1 St2 h0 m o f j1 j2 a b h) (k : Heap.SameBut i1 h h') (r : St1 (j1 + 1) h') : Zs z TI TO i1 i2 St1 St2 h0 m o f (j1 + 1) j2 a b h' :=
  ⟨k.extBut _ _ S.zi1 q.rcd, k.extBut _ _ S.TIi1 q.ins, k.extBut _ _ S.Ti1 q.out, r, D2.over q.s2 k S.sep1_2, k.1.trans q.num, fun c u e1 e2 e3 e4 x => k.extBut _ _ e3 (q.rest c u e1 e2 e3 e4 x)⟩
theorem Zs.two (q : Zs z TI TO i1 i2 St1 St2 h0 m o f j1 j2 a b h) (k : Heap.SameBut i2 h h') (r : St2 (j2 + 1) h') : Zs z TI TO i1 i2 St1 St2 h0 m o f j1 (j2 + 1) a b h' :=
  ⟨k.extBut _ _ S.zi2 q.rcd, k.extBut _ _ S.TIi2 q.ins, k.extBut _ _ S.Ti2 q.out, D1.over q.s1 k S.sep2_1, r, k.1.trans q.num, fun c u e1 e2 e3 e4 x => k.extBut _ _ e4 (q.rest c u e1 e2 e3 e4 x)⟩
theorem Zs.more (q : Zs z TI TO i1 i2 St1 St2 h0 m o f j1 j2 a b h) (t : Obj) : Zs z TI TO i1 i2 St1 St2 h0 (m + 1) o f j1 j2 a b (h.push t) := by
  have up : ∀ c u, h.get? c = some u → (h.push t).get? c = some u := fun c u e => Heap.get?_push_of_some _ e
  exact ⟨up _ _ q.rcd, up _ _ q.ins, up _ _ q.out, D1.frame _ _ _ q.s1 fun c _ u e => up c u e, D2.frame _ _ _ q.s2 fun c _ u e => up c u e, by rw [Heap.size_push, q.num], fun c u e1 e2 e3 e4 x => up c u (q.rest c u e1 e2 e3 e4 x)⟩
theorem Zs.draw1 {s : Shared} {Q : Value → Shared → Prop} (q : Zs z TI TO i1 i2 St1 St2 h0 m o f j1 j2 a b s.heap) (l : j1 < n1)
    (k : ∀ x h' t, P1 j1 x → Zs z TI TO i1 i2 St1 St2 h0 m o f (j1 + 1) j2 a b h' → Q x { s with heap := h', toks := t }) : wpAny (model prog w) A (Builtin.SmallTypes.nextOf (.ref i1)) Q E s :=
  D1.item j1 s Q E l q.s1 fun x h' t p st sb => k x h' t p (q.one S D1 D2 sb st)
theorem Zs.draw2 {s : Shared} {Q : Value → Shared → Prop} (q : Zs z TI TO i1 i2 St1 St2 h0 m o f j1 j2 a b s.heap) (l : j2 < n2)
    (k : ∀ x h' t, P2 j2 x → Zs z TI TO i1 i2 St1 St2 h0 m o f j1 (j2 + 1) a b h' → Q x { s with heap := h', toks := t }) : wpAny (model prog w) A (Builtin.SmallTypes.nextOf (.ref i2)) Q E s :=
  D2.item j2 s Q E l q.s2 fun x h' t p st sb => k x h' t p (q.two S D1 D2 sb st)
theorem Zs.ask {s : Shared} {Q : Bool → Shared → Prop} (q : Zs z TI TO i1 i2 St1 St2 h0 m o f j1 j2 a b s.heap) (ho : Out o)
    (k : ∀ y h' f', Zs z TI TO i1 i2 St1 St2 h0 m o f' j1 j2 a b h' → Q y { s with heap := h' }) : wpAny (model prog w) A (Builtin.SmallTypes.ownedTupleIsFree (.ref z)) Q E s := by
  unfold Builtin.SmallTypes.ownedTupleIsFree
  refine wpAny_bind (wpAny_field q.rcd rfl (x := o) rfl ?_)
  cases ho with
  | no => exact wpAny_pure (k true s.heap f q)
  | num T =>
    refine wpAny_bind (lives ?_)
    generalize s.heap.get? _ = al
    cases al with
    | none => exact wpAny_pure (k true s.heap f q)
    | some u =>
      refine wpAny_bind (wpAny_field q.rcd rfl (x := .bool f) rfl ?_)
      cases f with
      | true => exact wpAny_pure (k false s.heap true q)
      | false => exact wpAny_bind (wpAny_setField_rec q.rcd (by simp) fun h' r sb => wpAny_pure (k false h' true (q.note S D1 D2 sb r)))
theorem Zs.put {s : Shared} {β : Type} {r : Sem β} {Q : β → Shared → Prop} {x : Value} (q : Zs z TI TO i1 i2 St1 St2 h0 m o f j1 j2 a b s.heap) (n : Nat) (e : (#[a, b] : Array Value).setIfInBounds n x = #[a', b'])
    (k : ∀ h', Zs z TI TO i1 i2 St1 St2 h0 m o f j1 j2 a' b' h' → wpAny (model prog w) A r Q E { s with heap := h' }) :
    wpAny (model prog w) A (do let some kept ← seqItems? (.ref TO) | unsupported "internal:zip.__next__"
                               updateSeq TO (·.setIfInBounds n x)
                               letGo [kept.getD n .none]
                               r) Q E s := by
  refine wpAny_bind (wpAny_seqItems q.out rfl (wpAny_bind (wpAny_updateSeq q.out rfl (wpAny_bind (wpAny_letGo (k _ (q.write S D1 D2 (Heap.SameBut.update ..) ?_)))))))
  show Heap.get? _ _ = _
  rw [Heap.get?_update_self _ q.out rfl, ← e]
  simp [Obj.mapSeq]
theorem Zs.next {s : Shared} {Q : Value → Shared → Prop} {j : Nat} (q : Zs z TI TO i1 i2 St1 St2 s.heap s.heap.objs.size o f j j a b s.heap) (ho : Out o) (l1 : j < n1) (l2 : j < n2)
    (k : ∀ x y h' t o' f' a' b', P1 j x → P2 j y → Out o' → IsPair h' s.heap.objs.size x y → Zs z TI TO i1 i2 St1 St2 s.heap (s.heap.objs.size + 1) o' f' (j + 1) (j + 1) a' b' h' → Q (.ref s.heap.objs.size) { s with heap := h', toks := t }) :
    wpAny (model prog w) A (Builtin.«zip.__next__» ⟨[.ref z], []⟩) (fun v s' => ∃ u, v = .done (.ret u) ∧ Q u s') E s := by
  have lz : z < s.heap.objs.size := Heap.lt_size q.rcd
  show wpAny _ _ (field (.ref z) 2 >>= _) _ _ _
  refine wpAny_bind (wpAny_field q.rcd rfl (x := .bool false) rfl (wpAny_bind (wpAny_field q.rcd rfl (x := .ref TI) rfl (wpAny_bind (wpAny_seqItems q.ins rfl ?_)))))
  refine wpAny_bind (q.ask S D1 D2 ho fun y h1 f1 q1 => ?_)
  cases y
  · refine wpAny_bind ?_
    rw [← Array.forIn_toList]
    simp only [List.forIn_cons, List.forIn_nil]
    refine wpAny_bind (wpAny_bind (wpAny_holding (wpAny_bind (Zs.draw1 S D1 D2 (s := { s with heap := h1 }) q1 l1 fun x h2 t2 px q2 => wpAny_pure (wpAny_pure ?_)))))
    refine wpAny_bind (wpAny_bind (wpAny_holding (wpAny_bind (Zs.draw2 S D1 D2 (s := { s with heap := h2, toks := t2 }) q2 l2 fun y h3 t3 py q3 => wpAny_pure (wpAny_pure (wpAny_pure ?_))))))
    refine wpAny_bind (wpAny_newTuple (hsz := by show 2 ≤ sizeLine; decide) (wpAny_pure ⟨_, rfl, ?_⟩))
    have e := Heap.get?_push_size h3 (o := { cls := .type "tuple", data := .seq #[x, y] }) rfl
    rw [q3.num] at e
    have g := k x y _ t3 o f1 a b px py ho e (q3.more S D1 D2 _)
    rw [← q3.num] at g
    exact g
  · refine wpAny_bind (wpAny_rule (wpAny_bind (wpAny_field q1.rcd rfl (x := .ref TO) rfl (wpAny_bind (wpAny_setField_rec q1.rcd (by simp) fun h2 r2 k2 => ?_)))))
    have q2 : Zs z TI TO i1 i2 St1 St2 s.heap s.heap.objs.size .ellipsis f1 j j a b h2 := q1.note S D1 D2 k2 r2
    refine wpAny_bind ?_
    simp only [List.zipIdx_cons, List.zipIdx_nil, List.forIn_cons, List.forIn_nil]
    refine wpAny_bind (wpAny_bind (wpAny_onRaise (wpAny_bind (Zs.draw1 S D1 D2 (s := { s with heap := h2 }) q2 l1 fun x h3 t3 px q3 => wpAny_pure ?_))))
    refine Zs.put S D1 D2 (s := { s with heap := h3, toks := t3 }) q3 0 (a' := x) (b' := b) rfl fun h4 q4 => wpAny_pure ?_
    refine wpAny_bind (wpAny_bind (wpAny_onRaise (wpAny_bind (Zs.draw2 S D1 D2 (s := { s with heap := h4, toks := t3 }) q4 l2 fun y h5 t5 py q5 => wpAny_pure ?_))))
    refine Zs.put S D1 D2 (s := { s with heap := h5, toks := t5 }) q5 1 (a' := x) (b' := y) rfl fun h6 q6 => wpAny_pure (wpAny_pure ?_)
    refine wpAny_bind (wpAny_seqItems q6.out rfl (wpAny_bind (wpAny_newTuple (hsz := by show 2 ≤ sizeLine; decide) ?_)))
    have e := Heap.get?_push_size h6 (o := { cls := .type "tuple", data := .seq #[x, y] }) rfl
    have q7 := q6.more S D1 D2 { cls := .type "tuple", data := .seq #[x, y] }
    refine wpAny_bind (wpAny_bind (wpAny_setField_rec q7.rcd (by simp) fun h8 r8 k8 => ?_))
    refine wpAny_setField_rec r8 (by simp) fun h9 r9 k9 => wpAny_pure ⟨_, rfl, ?_⟩
    have q9 : Zs z TI TO i1 i2 St1 St2 s.heap (s.heap.objs.size + 1) (rawInt h6.objs.size) false (j + 1) (j + 1) x y h9 := (q7.note S D1 D2 (o' := rawInt h6.objs.size) (f' := f1) k8 r8).note S D1 D2 k9 r9
    have e9 : IsPair h9 h6.objs.size x y := by
      have ne : h6.objs.size ≠ z := by rw [q6.num]; exact Nat.ne_of_gt lz
      exact k9.extBut _ _ ne (k8.extBut _ _ ne e)
    rw [q6.num] at e9
    have g := k x y _ t5 _ false x y px py (.num _) e9 q9
    rw [← q6.num] at g
    exact g
theorem Zs.over {s : Shared} {Q : Fin → Shared → Prop} {j : Nat} (q : Zs z TI TO i1 i2 St1 St2 s.heap s.heap.objs.size o f j j a b s.heap) (ho : Out o) (l : j = n1 ∨ (j < n1 ∧ j = n2))
    (k : ∀ h' t e, (∀ c u, c ≠ z → c ≠ TO → c ≠ i1 → c ≠ i2 → s.heap.get? c = some u → h'.get? c = some u) → (∃ u, h'.get? e = some u ∧ u.cls = .type "StopIteration") → E (.ref e) { s with heap := h', toks := t }) :
    wpAny (model prog w) A (Builtin.«zip.__next__» ⟨[.ref z], []⟩) Q E s := by
  show wpAny _ _ (field (.ref z) 2 >>= _) _ _ _
  refine wpAny_bind (wpAny_field q.rcd rfl (x := .bool false) rfl (wpAny_bind (wpAny_field q.rcd rfl (x := .ref TI) rfl (wpAny_bind (wpAny_seqItems q.ins rfl ?_)))))
  refine wpAny_bind (q.ask S D1 D2 ho fun y h1 f1 q1 => ?_)
  cases y
  · refine wpAny_bind ?_
    rw [← Array.forIn_toList]
    simp only [List.forIn_cons, List.forIn_nil]
    refine wpAny_bind (wpAny_bind (wpAny_holding (wpAny_bind ?_)))
    rcases l with rfl | ⟨l1, rfl⟩
    · exact D1.done { s with heap := h1 } _ _ q1.s1 fun h2 e k2 x => k h2 s.toks e (fun c u e1 e2 e3 e4 y => k2 _ _ e3 (q1.rest c u e1 e2 e3 e4 y)) x
    · refine Zs.draw1 S D1 D2 (s := { s with heap := h1 }) q1 l1 fun x h2 t2 px q2 => wpAny_pure (wpAny_pure ?_)
      refine wpAny_bind (wpAny_bind (wpAny_holding (wpAny_bind ?_)))
      exact D2.done { s with heap := h2, toks := t2 } _ _ q2.s2 fun h3 e k3 x => k h3 t2 e (fun c u e1 e2 e3 e4 y => k3 _ _ e4 (q2.rest c u e1 e2 e3 e4 y)) x
  · refine wpAny_bind (wpAny_rule (wpAny_bind (wpAny_field q1.rcd rfl (x := .ref TO) rfl (wpAny_bind (wpAny_setField_rec q1.rcd (by simp) fun h2 r2 k2 => ?_)))))
    have q2 : Zs z TI TO i1 i2 St1 St2 s.heap s.heap.objs.size .ellipsis f1 j j a b h2 := q1.note S D1 D2 k2 r2
    refine wpAny_bind ?_
    simp only [List.zipIdx_cons, List.zipIdx_nil, List.forIn_cons, List.forIn_nil]
    refine wpAny_bind (wpAny_bind (wpAny_onRaise (wpAny_bind ?_)))
    rcases l with rfl | ⟨l1, rfl⟩
    · exact D1.done { s with heap := h2 } _ _ q2.s1 fun h3 e k3 x => raised (s := { s with heap := h3 }) (k3 _ _ S.zi1 q2.rcd) x fun h4 k4 y => k h4 s.toks e (fun c u e1 e2 e3 e4 y => k4.extBut _ _ e1 (k3 _ _ e3 (q2.rest c u e1 e2 e3 e4 y))) y
    · refine Zs.draw1 S D1 D2 (s := { s with heap := h2 }) q2 l1 fun x h3 t3 px q3 => wpAny_pure ?_
      refine Zs.put S D1 D2 (s := { s with heap := h3, toks := t3 }) q3 0 (a' := x) (b' := b) rfl fun h4 q4 => wpAny_pure ?_
      refine wpAny_bind (wpAny_bind (wpAny_onRaise (wpAny_bind ?_)))
      exact D2.done { s with heap := h4, toks := t3 } _ _ q4.s2 fun h5 e k5 x => raised (s := { s with heap := h5, toks := t3 }) (k5 _ _ S.zi2 q4.rcd) x fun h6 k6 y => k h6 t3 e (fun c u e1 e2 e3 e4 y => k6.extBut _ _ e1 (k5 _ _ e4 (q4.rest c u e1 e2 e3 e4 y))) y
end
section
variable {prog : Program} {w : World} {A : Around} {E : Value → Shared → Prop} {z TI TO i1 i2 : Addr} {fp1 fp2 : List Addr} {n1 n2 : Nat} {P1 P2 : Nat → Value → Prop} {St1 St2 : Nat → Heap → Prop} {o : Value} {f : Bool} {a b : Value}
end
structure Kin (Sq : PySem.W.Frag → Hp → Addr → List V → Prop) (Has : Heap → Addr → Array Value → Prop) (Itr : Heap → Addr → Addr → Nat → Prop) : Prop where
  stay : ∀ {h h' : Heap} {i l : Addr} {k : Nat}, Itr h i l k → (∀ u, h.get? i = some u → h'.get? i = some u) → Itr h' i l k
  live : ∀ {h : Heap} {i l : Addr} {k : Nat}, Itr h i l k → ∃ u, h.get? i = some u ∧ ∀ v, u.data ≠ .cell v
  lt : ∀ {h : Heap} {l : Addr} {xs : Array Value}, Has h l xs → l < h.objs.size
  items : ∀ {X : Cx} {pins : List (Addr × Obj)} {σ : L2.St} {H : Hp} {s : Shared} {l : Addr} {xs : List V}, Inv X pins σ H s → Sq X.K H l xs → ∃ its : List Value, Vals xs its ∧ Has s.heap l its.toArray
  inj : ∀ {X : Cx} {pins : List (Addr × Obj)} {σ : L2.St} {H : Hp} {s : Shared} {l : Addr} {xs ys : List V}, Inv X pins σ H s → Sq X.K H l xs → Sq X.K H l ys → xs = ys
  goes : ∀ {prog : Program} {w : World} {A : Around}, A.handled = none → ∀ (i l : Addr) (xs : Array Value), l ≠ i → Draws prog w A i [i, l] xs.size (fun k v => xs[k]? = some v) (fun k h => Itr h i l k ∧ Has h l xs)
  ends : ∀ {prog : Program} {w : World} {A : Around}, A.handled = none → ∀ (i l : Addr) (xs : Array Value) (n : Nat), l ≠ i → xs.size ≤ n → Draws prog w A i [i, l] n (fun _ _ => False) (fun k h => k = n ∧ Itr h i l n ∧ Has h l xs)
section
variable {Sq : PySem.W.Frag → Hp → Addr → List V → Prop} {Has : Heap → Addr → Array Value → Prop} {Itr : Heap → Addr → Addr → Nat → Prop}
def ZipAt (Itr : Heap → Addr → Addr → Nat → Prop) (z TI TO i1 i2 l1 l2 : Addr) (i : Nat) (h : Heap) : Prop :=
  ∃ o f a b, Out o ∧ ZR h z o (.bool f) TI TO ∧ IsPair h TI (.ref i1) (.ref i2) ∧ IsPair h TO a b ∧ Itr h i1 l1 i ∧ Itr h i2 l2 i
theorem made {X : Cx} {pins : List (Addr × Obj)} {σ : L2.St} {H : Hp} {s : Shared} {h' : Heap} {l1 l2 : Addr} {x : String} {px : Pos} {J : It} {R : It → Hp → Prop} (kin : Kin Sq Has Itr) (I : Inv X pins σ H s) (e1 : l1 < s.heap.objs.size) (e2 : l2 < s.heap.objs.size)
    (k : ∀ c u, s.heap.get? c = some u → h'.get? c = some u) (at0 : ZipAt Itr (s.heap.objs.size + 4) (s.heap.objs.size + 2) (s.heap.objs.size + 3) s.heap.objs.size (s.heap.objs.size + 1) l1 l2 0 h')
    (t : Turn X.prog X.w X.K (.Name x px) J [s.heap.objs.size + 4, s.heap.objs.size + 2, s.heap.objs.size + 3, s.heap.objs.size, s.heap.objs.size + 1] (s.heap.objs.size + 4) (ZipAt Itr (s.heap.objs.size + 4) (s.heap.objs.size + 2) (s.heap.objs.size + 3) s.heap.objs.size (s.heap.objs.size + 1) l1 l2)) (q : R J H) :
    PIE X pins σ (.Name x px) R (.ref (s.heap.objs.size + 4)) { s with heap := h' } := by
  refine ⟨_, _, _, J, H, rfl, I.kept (t' := s.toks) k, t, at0, fun c hc => ?_, q⟩
  have le : s.heap.objs.size ≤ c := by
    simp only [List.mem_cons, List.not_mem_nil, or_false] at hc
    rcases hc with rfl | rfl | rfl | rfl | rfl
    all_goals first | exact Nat.le_add_right _ _ | exact Nat.le_refl _
  exact I.fpOk le (I.hok.fresh le)
end
end RK
namespace RK
open PySem PySem.Spec PyProof.Rows L2
section
variable {X : Cx} {pins : List (Addr × Obj)} {σ τ : L2.St} {s0 s : Shared} {H0 H : Hp} {sco : Scope} {own : List (Str × Nat)} {tg : Expr} {J : It} {fp : List Addr} {it : Addr} {tn : Nat → Heap → Prop} {i : Nat}
abbrev bEnv (X : Cx) (sco : Scope) (s0 : Shared) : Env := compEnvC sco (cellsFrom (s0.heap.objs.size + 1) sco.names (cloFrom X.env.cells sco.names [])) s0.heap.objs.size X.env
abbrev bCx (X : Cx) (sco : Scope) (fp : List Addr) (s0 : Shared) (H0 : Hp) : Cx := X.blk s0 H0 sco (bEnv X sco s0) fp
structure Outer (X : Cx) (pins : List (Addr × Obj)) (σ : L2.St) (s0 : Shared) (H0 : Hp) (fp : List Addr) : Prop where
  inv : Inv X pins σ H0 s0
  cells : ∀ b ∈ fp, FpOk X pins H0 b ∧ b < s0.heap.objs.size
structure Inner (X : Cx) (sco : Scope) (fp : List Addr) (s0 : Shared) (H0 : Hp) (tn : Nat → Heap → Prop) (τ : L2.St) (i : Nat) (H : Hp) (s : Shared) : Prop where
  inv : Inv (bCx X sco fp s0 H0) [] τ H s
  at_ : tn i s.heap
  out : ∀ b ∈ fp, H b = none
theorem Inner.cells (B : Inner X sco fp s0 H0 tn τ i H s) : ∀ b ∈ fp, FpOk (bCx X sco fp s0 H0) [] H b := fun b hb =>
  ⟨B.out b hb, (B.inv.ok.exf b hb).1, B.inv.ok.exfs b hb, .inl hb, (B.inv.ok.exf b hb).2, fun _ h => nomatch h⟩
theorem Outer.back (O : Outer X pins σ s0 H0 fp) (I : Inv (bCx X sco fp s0 H0) [] τ H s) : Inv X pins σ H s ∧ FpOk X pins H s0.heap.objs.size ∧ ∃ m, s.heap.Ns s0.heap.objs.size m :=
  ⟨O.inv.call' (ch := fp) I.os I.base I.hok I.bare fun b hb => let ⟨_, f1, _, f3, f4, f5⟩ := (O.cells b hb).1; ⟨f3, f1, f4, f5⟩, O.inv.fpOk (Nat.le_refl _) I.free, let ⟨m, h, _⟩ := I.loc; ⟨m, h⟩⟩
theorem Inner.stop (B : Inner X sco fp s0 H0 tn τ i H s) (O : Outer X pins σ s0 H0 fp) (calm : X.calm = true) (T : Turn X.prog X.w X.K tg J fp it tn) (e : J.stop i H) {E : Value → Shared → Prop} :
    wpAny (model X.prog X.w) X.A (pyNext (.ref it)) (fun r s1 => r = none ∧ Inv X pins σ H s1 ∧ FpOk X pins H s0.heap.objs.size ∧ ∃ m, s1.heap.Ns s0.heap.objs.size m) E s :=
  thn (T.done (bCx X sco fp s0 H0) rfl rfl rfl calm i [] s τ H E B.inv B.cells B.at_ e) fun _ _ h => ⟨h.1, O.back h.2⟩
theorem Inner.take (B : Inner X sco fp s0 H0 tn τ i H s) (calm : X.calm = true) (T : Turn X.prog X.w X.K tg J fp it tn) (e : J.go i H) {E : Value → Shared → Prop} :
    wpAny (model X.prog X.w) X.A (pyNext (.ref it)) (fun r s1 => ∃ u, r = some u ∧ wpAny (model X.prog X.w) X.A (letOwnedTupleGo tg (.ref it) u) (fun _ s2 =>
      ∃ x H2, RelV x u ∧ J.yld i H x H2 ∧ Inv (bCx X sco fp s0 H0) ([] ++ pinsAt fp s2.heap) τ H2 s2 ∧
        ∀ τ3 H3 s3, Inv (bCx X sco fp s0 H0) ([] ++ pinsAt fp s2.heap) τ3 H3 s3 → Inner X sco fp s0 H0 tn τ3 (i + 1) H3 s3) E s1) E s := by
  refine thn (T.item (bCx X sco fp s0 H0) rfl rfl rfl calm i [] s τ H E B.inv B.cells B.at_ e) fun r s1 ⟨u, hr, h⟩ => ⟨u, hr, thn h fun _ s2 ⟨x, H2, I2, rx, y, t2, n2⟩ => ?_⟩
  have B2 : Inner X sco fp s0 H0 tn τ (i + 1) H2 s2 := ⟨I2, t2, n2⟩
  refine ⟨x, H2, rx, y, I2.pinned B2.cells (T.obj _ _ t2), fun τ3 H3 s3 I3 => ?_⟩
  have pin : ∀ b ∈ fp, ∀ o, s2.heap.get? b = some o → s3.heap.get? b = some o ∧ H3 b = none := fun b hb o e =>
    let p := I3.pin (b, o) (List.mem_append_right _ (List.mem_append_right _ (mem_pinsAt hb e)))
    ⟨p.1, p.2.1⟩
  exact ⟨I3.unpinned, T.keep _ _ _ t2 fun b hb o e => (pin b hb o e).1, fun b hb => let ⟨o, e, _⟩ := T.obj _ _ t2 b hb; (pin b hb o e).2⟩
end
end RK
namespace DL
open PySem PySem.Spec PyProof.Rows L2 RK
section
variable {X : Cx} {F : Fx} {e a b c tg iter : Expr} {es : List Expr} {d da db dc : TDE} {ds : TDA} {pos p : Pos} {i j l : Nat}
end
end DL
namespace DL
open PySem PySem.Spec PyProof.Rows L2 RK
section
variable {X : Cx} {F : Fx} {e : Expr} {es : List Expr} {d : TDE} {ds : TDA} {p : Pos}
end
end DL
namespace DL
open PySem PySem.Spec PyProof.Rows L2 RK
section
variable {X : Cx}
end
section
variable {X : Cx} {F : Fx} {e : Expr} {d : TDE} {pos p : Pos}
end
end DL
namespace DL
open PySem PySem.Spec PyProof.Rows L2 RK
structure AbY (F : Fx) (env : De) (σ : L2.St) (L : List Addr) (H : Hp) (i j : Nat) (H0 : Hp) : Prop where
  a : Abs F env σ L H
  y : ∀ xs ys, env[i]? = some (.fz (.tup xs)) → xs[j]? = some (.lst ys) → ∃ t vs c us, σ[i]? = some (some (.ref t)) ∧ H t = some (.tup vs) ∧ vs[j]? = some (.ref c) ∧ H0 c = none ∧ H c = some (.lst us) ∧ Lone (env.set i .no) σ c ∧ Abs F (env.set i .no) σ (c :: L) H
section
variable {X : Cx} {F : Fx} {e c o : Expr} {d : TDE} {pos p : Pos} {i j : Nat} {sa rest : List Stmt} {r r2 : TDS} {t : TDT}
theorem AbY.step {env : De} {σ : L2.St} {L : List Addr} {H H' H0 : Hp} (A : AbY F env σ L H i j H0) (k : KeepW F.W H H') (ok : F.W.ok H') : AbY F env σ L H' i j H0 := by
  refine ⟨A.a.step k ok, fun xs ys h1 h2 => ?_⟩
  obtain ⟨t, vs, c, us, a1, a2, a3, a4, a5, lo, B⟩ := A.y xs ys h1 h2
  have hv := A.a.en i _ _ h1 a1
  have nt : ¬ F.W.own t := by
    cases hv with | tup g1 g2 _ => exact nw_of A.a g2
  have nc : ¬ F.W.own c := fun z => B.out List.mem_cons_self (B.wn c z)
  exact ⟨t, vs, c, us, a1, k _ _ nt a2, a3, a4, k _ _ nc a5, lo, B.step k ok⟩
end
end DL
namespace DL
open PySem PySem.Spec PyProof.Rows L2 RK
section
variable {X : Cx} {F : Fx} {e : Expr} {es : List Expr} {ds dk : TDA} {pos p : Pos} {CX : CXT} {k n m : Nat} {f : Addr} {fd : FuncData} {ps ks : List Str} {sp : DSp} {E : XK} {x : Str} {fr : Fr} {K : PySem.W.Frag}
variable {a b c : Expr} {d da db dc : TDE} {i j : Nat} {kk : Nat}
end
end DL
namespace DL
open PySem PySem.Spec PyProof.Rows L2 RK
section
variable {X : Cx} {F : Fx} {o : Expr} {d : TDE} {dk : TDA} {pos apos : Pos} {CX : CXT} {k q : Nat} {f C : Addr} {fd : FuncData} {ps ks : List Str} {sp : DSp} {E : XK} {m : Str} {fr : Fr} {K : PySem.W.Frag} {pl : Sem Bool}
end
end DL
namespace RK
open PySem PySem.Spec PyProof.Rows L2
section
variable {prog : Program} {w : World} {A : Around} {R : Result → Shared → Prop} {I : Addr} {fp wr : List Addr} {n : Nat} {P : Nat → Value → Prop} {St : Nat → Heap → Prop} {kw : List (Str × Value)}
end
section
variable {prog : Program} {w : World} {A : Around} {E : Value → Shared → Prop} {s : Shared} {l : Addr} {its : List Value} {ns : List Int}
end
section
variable {X : Cx}
end
end RK
namespace DL
open PySem PySem.Spec PyProof.Rows L2 RK
section
variable {X : Cx} {F : Fx} {e a b c : Expr} {d da db dc : TDE} {ds dk : TDA} {pos p : Pos} {k : Nat}
theorem intsD_w {K : PySem.W.Frag} {N : Addr → Prop} {W : Wd} {H : Hp} : ∀ {vs : List V} {ds : List D} {is : List Int}, DdAll K N W H vs ds → intsD ds = some is → vs = is.map V.int
  | _, _, _, .nil, e => by cases e; rfl
  | _, _, _, .cons (v := v) (d := d) h a, e => by
    cases d <;> try cases e
    obtain ⟨js, h3, h4⟩ := Option.map_eq_some_iff.mp e
    subst h4
    rw [intsD_w a h3, dd_intE h]
    rfl
def dMaxL (d : TDE) : TDE := fun env P => d env fun x => match x with
  | .lst xs => ∃ is, intsD xs = some is ∧ 0 < is.length ∧ ∀ m, m ∈ is → (∀ y ∈ is, y ≤ m) → P (.int m)
  | _ => False
theorem dd_maxL (hg : Gl X "max") (hm : X.mg "max" = none) (ha : PE X e (lC F d)) (hc : X.calm = true := by rfl) (he : starEach [e] X.env = (false, eval e X.env) :: starEach [] X.env := by rfl) (hpl : (backTo pos (starEach [] X.env)).any (·.1) = false := by rfl) (hK : F.K = X.K := by rfl) :
    PE X (.Call (.Name "max" p) [e] [] pos) (lC F (dMaxL d)) := PE.mono (pe_callB (cr_max hc) hg hm (by decide +kernel) (pa_cons ha pa_nil he) (by decide) (by decide) he hpl) fun σ H Q ⟨env, L, P, A, pp, q⟩ =>
  ⟨env, L, _, A, pp, fun x v H1 px k1 o1 d1 => by
    cases x with
    | lst xs =>
      obtain ⟨is, e1, e2, py⟩ := px
      obtain ⟨a, vs, rfl, h1, _, h2⟩ := dd_lstE d1
      have ev := intsD_w h2 e1
      subst ev
      exact ⟨a, is, rfl, by rw [← hK]; exact SqL.of h1, e2, fun m h3 h4 => q _ _ H1 (py m h3 h4) k1 o1 (.int m)⟩
    | _ => exact px.elim⟩
def prD : List D → Option (List (Key × D))
  | [] => some []
  | .tup [x, y] :: ds => (keyD x).bind fun k => (prD ds).map fun l => (k, y) :: l
  | _ => none
def dictPD : List D → Option D
  | [.lst xs] => (prD xs).map fun l => .dic (mergeD [] l)
  | _ => none
theorem prD_v {K : PySem.W.Frag} {N : Addr → Prop} {W : Wd} {H : Hp} : ∀ {vs : List V} {ds : List D} {l : List (Key × D)}, DdAll K N W H vs ds → prD ds = some l → ∃ (ps : List Addr) (kvs : List (Key × V)), vs = ps.map V.ref ∧ Paired (fun p kv => SqT K H p [kV kv.1, kv.2]) ps kvs ∧ kvs.map (·.1) = l.map (·.1) ∧ DdAll K N W H (kvs.map (·.2)) (l.map (·.2))
  | _, _, _, .nil, e => by cases e; exact ⟨[], [], rfl, .nil, rfl, .nil⟩
  | _, _, _, .cons (v := v) (d := d) (ds := dss) h a, e => by
    cases d with
    | tup xs =>
      match xs, e, h with
      | [x, y], e, h =>
        obtain ⟨k, h1, h2⟩ := Option.bind_eq_some_iff.mp e
        obtain ⟨l, h3, h4⟩ := Option.map_eq_some_iff.mp h2
        subst h4
        obtain ⟨ps, kvs, rfl, r1, r2, r3⟩ := prD_v a h3
        obtain ⟨q, us, rfl, g1, _, g2⟩ := dd_tupE h
        match us, g2 with
        | [u, w], .cons hu (.cons hw .nil) =>
          have eu : u = kV k := by
            cases x <;> cases h1
            · exact dd_intE hu
            · exact dd_strE hu
          subst eu
          exact ⟨q :: ps, (k, w) :: kvs, rfl, .cons (SqT.of g1) r1, by rw [List.map_cons, List.map_cons, r2], .cons hw r3⟩
    | _ => cases e
theorem dictP_okN (hK : F.K = X.K) : CaN F (fun xs H Q => ∃ (a : Addr) (ps : List Addr) (kvs : List (Key × V)), xs = [.ref a] ∧ SqL X.K H a (ps.map V.ref) ∧ Paired (fun p kv => SqT X.K H p [kV kv.1, kv.2]) ps kvs ∧ ∀ p, H p = none → Q (.ref p) (upd H p (.dK (mergeK [] kvs)))) dictPD := fun A b e Q q => by
  rename_i dl z
  match dl, b, e with
  | [.lst xs], .cons h .nil, e =>
    obtain ⟨a, vs, rfl, h1, h2⟩ := bw_lst h
    obtain ⟨l, e1, e2⟩ := Option.map_eq_some_iff.mp e
    subst e2
    obtain ⟨ps, kvs, rfl, r1, r2, r3⟩ := prD_v h2 e1
    rw [← hK]
    refine ⟨_, ps, kvs, rfl, SqL.of h1, r1, fun t ht => q _ _ (.new ht) (ok_new A.ok ht) ht ?_⟩
    obtain ⟨m1, m2⟩ := merge_rel (kvs := []) (kds := []) r2 r3 rfl .nil
    exact ⟨_, upd_same, m1, new_pres A ht m2⟩
theorem dn_dictP (hc : X.calm = true) (hg : Gl X "dict") (hm : X.mg "dict" = none) (ha : PE X e (lB F d)) (he : starEach [e] X.env = (false, eval e X.env) :: starEach [] X.env := by rfl) (hpl : (backTo pos (starEach [] X.env)).any (·.1) = false := by rfl) (hK : F.K = X.K := by rfl) :
    PE X (.Call (.Name "dict" p) [e] [] pos) (lN F (dCa dictPD (aCons d aNil))) := PE.mono (pe_callTy (call_dictP hc) hg hm (by decide +kernel) (db_cons ha db_nil he) (by decide) (by decide) he hpl) (lcaN (dictP_okN hK))
def dEmp : TDE := fun _ P => P (.dic [])
theorem dn_emp : PE X (.Dict [] [] pos) (lN F dEmp) := PE.mono pe_dnewK fun σ H Q ⟨env, L, P, A, pp, q⟩ => fun t ht => q _ _ _ pp (.new ht) (ok_new A.ok ht) ht ⟨[], upd_same, rfl, .nil⟩
end
end DL
namespace DL
open PySem PySem.Spec PyProof.Rows L2 RK
section
variable {K : PySem.W.Frag} {N : Addr → Prop} {W : Wd} {H H' : Hp} {d : Addr} {kvs : List (Key × V)}
structure LkR (H H' : Hp) (d : Addr) (kvs : List (Key × V)) : Prop where
  o : ∀ a, a ≠ d → H' a = H a
  l : Rd H d (.dK kvs)
  r : Rd H' d (.dK kvs)
theorem LkR.symm (h : LkR H H' d kvs) : LkR H' H d kvs := ⟨fun a n => (h.o a n).symm, h.r, h.l⟩
theorem LkR.keep (h : LkR H H' d kvs) {a : Addr} {u : HO} (e : H a = some u) (n : ∀ o, u ≠ .dK kvs ∧ u ≠ .frz o (.dK kvs)) : H' a = some u := by
  by_cases z : a = d
  · subst z
    rcases h.l with q | ⟨o, q⟩
    · rw [q] at e
      exact absurd (Option.some.inj e).symm (n (Classical.choice ⟨default⟩)).1
    · rw [q] at e
      exact absurd (Option.some.inj e).symm (n o).2
  · rw [h.o a z]; exact e
theorem LkR.rd (h : LkR H H' d kvs) {a : Addr} {us : List (Key × V)} (e : Rd H a (.dK us)) : Rd H' a (.dK us) := by
  by_cases z : a = d
  · subst z
    have : us = kvs := by
      rcases h.l with q | ⟨o, q⟩ <;> rcases e with e | ⟨o', e⟩ <;> rw [q] at e <;> cases e <;> rfl
    rw [this]
    exact h.r
  · rcases e with e | ⟨o, e⟩
    · exact .inl (by rw [h.o a z]; exact e)
    · exact .inr ⟨o, by rw [h.o a z]; exact e⟩
theorem LkR.rdT (h : LkR H H' d kvs) {a : Addr} {us : List (List Key × V)} (e : Rd H a (.dT us)) : Rd H' a (.dT us) := by
  rcases e with e | ⟨o, e⟩
  · exact .inl (h.keep e fun o => ⟨fun z => (by cases z), fun z => (by cases z)⟩)
  · exact .inr ⟨o, h.keep e fun o => ⟨fun z => (by cases z), fun z => (by cases z)⟩⟩
theorem cells_lk {N : Addr → Prop} (h : LkR H H' d kvs) : ∀ {ps : List (Str × Addr)} {vs : List V}, CellsH N H ps vs → CellsH N H' ps vs
  | [], [], _ => True.intro
  | _ :: _, _ :: _, ⟨e, n, r⟩ => ⟨h.keep e fun o => ⟨fun z => (by cases z), fun z => (by cases z)⟩, n, cells_lk h r⟩
  | [], _ :: _, e => e.elim
  | _ :: _, [], e => e.elim
theorem fnH_lk {N : Addr → Prop} (h : LkR H H' d kvs) {f : Addr} {F : LF} {vs : List V} (q : FnH N H f F vs) : FnH N H' f F vs where
  at_ := h.keep q.at_ fun o => ⟨fun z => (by cases z), fun z => (by cases z)⟩
  nf := q.nf
  code := h.keep q.code fun o => ⟨fun z => (by cases z), fun z => (by cases z)⟩
  nc := q.nc
  td := fun t e => ⟨h.keep (q.td t e).1 fun o => ⟨fun z => (by cases z), fun z => (by cases z)⟩, (q.td t e).2⟩
  cells := fun e => cells_lk h (q.cells e)
mutual
theorem Dd.lk (h : LkR H H' d kvs) : ∀ {v : V} {x : D}, Dd K N W H v x → Dd K N W H' v x
  | _, _, .non => .non
  | _, _, .bl b => .bl b
  | _, _, .int i => .int i
  | _, _, .str x => .str x
  | _, _, .lst e q a => .lst (h.keep e fun o => ⟨fun z => (by cases z), fun z => (by cases z)⟩) q (DdAll.lk h a)
  | _, _, .tup e q a => .tup (h.keep e fun o => ⟨fun z => (by cases z), fun z => (by cases z)⟩) q (DdAll.lk h a)
  | _, _, .ktp h1 h2 h3 h4 h5 a => .ktp h1 h2 h3 h4 h5 (DdAll.lk h a)
  | _, _, .dic e q z a => .dic (h.rd e) q z (DdAll.lk h a)
  | _, _, .dct e q z a => .dct (h.rdT e) q z (DdAll.lk h a)
  | _, _, .obj e q z a => .obj (h.keep e fun o => ⟨fun z => (by cases z), fun z => (by cases z)⟩) q z (DdAll.lk h a)
  | _, _, .bag e => .bag e
  | _, _, .fn q a => .fn (fnH_lk h q) (DdAll.lk h a)
  | _, _, .tr e q a => .tr (h.keep e fun o => ⟨fun z => (by cases z), fun z => (by cases z)⟩) q (a.tup fun b vs e => h.keep e fun o => ⟨fun z => (by cases z), fun z => (by cases z)⟩)
theorem DdAll.lk (h : LkR H H' d kvs) : ∀ {vs : List V} {xs : List D}, DdAll K N W H vs xs → DdAll K N W H' vs xs
  | _, _, .nil => .nil
  | _, _, .cons e a => .cons (Dd.lk h e) (DdAll.lk h a)
end
theorem LkR.ok (h : LkR H H' d kvs) (k : W.ok H) (nd : ¬ W.own d) : W.ok H' := by
  refine Wd.st k (fun a o e n => ?_) (fun a ps e => ?_)
  · by_cases ad : a = d
    · subst ad
      exfalso
      rcases n with n | n
      · exact nd n
      · rcases h.l with q | ⟨z, q⟩ <;> rw [q] at e <;> cases e <;> exact n True.intro
    · rw [h.o a ad]; exact e
  · exact ⟨ps, h.symm.keep e fun z => ⟨fun q => (by cases q), fun q => (by cases q)⟩⟩
end
def En.hk : En → En
  | .fz d => .fz d
  | _ => .no
def hidK (env : De) : De := env.map En.hk
theorem En.hk_ow : ∀ e : En, e.hk.isOw = false
  | .no => rfl
  | .fz _ => rfl
  | .ow _ => rfl
  | .od _ => rfl
  | .ot _ => rfl
  | .otr _ _ => rfl
  | .oo _ _ _ => rfl
  | .fe _ => rfl
theorem nk_nil {N : Addr → Prop} {a : Addr} {K : PySem.W.Frag} {W : Wd} {H0 : Hp} {fr : Fr} : Fx.N ⟨K, W, N, H0, fr⟩ [] a ↔ N a := ⟨fun h => h.elim id (fun z => by cases z), fun h => .inl h⟩
section
variable {F : Fx} {env : De} {σ : L2.St} {L : List Addr} {H H' : Hp} {d : Addr} {kvs : List (Key × V)}
theorem Abs.lk (A : Abs F env σ L H) (h : LkR H H' d kvs) (nd : ¬ F.N L d) : Abs ⟨F.K, F.W, F.N L, H', false⟩ (hidK env) σ [] H' where
  ok := h.ok A.ok fun z => nd (.inl (A.wn d z))
  al := fun a n => by
    obtain ⟨o, e⟩ := A.alN n
    by_cases z : a = d
    · exact absurd (z ▸ n) nd
    · exact ⟨o, (h.o a z).trans e⟩
  wn := fun a h => .inl (A.wn a h)
  kp := .refl _ _
  fr := fun a h => by cases h
  ls := by unfold hidK; rw [List.length_map]; exact A.ls
  sep := fun i j a ei ej h1 _ h3 _ _ _ => by
    unfold hidK at h1
    rw [List.getElem?_map] at h1
    obtain ⟨e, _, rfl⟩ := Option.map_eq_some_iff.mp h1
    rw [En.hk_ow] at h3
    cases h3
  so := fun i e b h hb => by
    unfold hidK at h
    rw [List.getElem?_map] at h
    obtain ⟨e, _, rfl⟩ := Option.map_eq_some_iff.mp h
    cases e <;> cases hb
  en := fun i e x h1 h2 => by
    unfold hidK at h1
    rw [List.getElem?_map] at h1
    obtain ⟨e, he, rfl⟩ := Option.map_eq_some_iff.mp h1
    have h3 := A.en i e x he h2
    cases e with
    | fz y =>
      cases x with
      | none => exact h3.elim
      | some v => exact Dd.keep (fun a o _ h => h) (fun a h => nk_nil.mp h) (Dd.lk h h3)
    | _ => exact trivial
def kdD : Key → D
  | .inl i => .int i
  | .inr x => .str x
theorem kdD_dd {K : PySem.W.Frag} {N : Addr → Prop} {W : Wd} {H : Hp} : ∀ k : Key, Dd K N W H (kV k) (kdD k)
  | .inl i => .int i
  | .inr x => .str x
end
theorem PE.or2 {X : Cx} {e : Expr} {t t' : TE} (h : PE X e t) (h' : PE X e t') : PE X e (fun σ H Q => t σ H Q ∨ t' σ H Q) := ⟨fun pins s σ H Q I q => by
  rcases q with q | q
  · exact h.run pins s σ H Q I q
  · exact h'.run pins s σ H Q I q⟩
end DL
namespace DL
open PySem PySem.Spec PyProof.Rows L2 RK
section
variable {X : Cx} {F : Fx} {e : Expr} {i : Nat} {pos p apos cpos : Pos}
def tItemsT (i : Nat) : TE := fun σ H Q => ∃ (d : Addr) (kvs : List (L2.Key × V)), σ[i]? = some (some (.ref d)) ∧ H d = some (.dK kvs) ∧
  ∀ (H' : Hp) (p : Addr) (ts : List Addr), (∀ b o, H b = some o → H' b = some o) → NoT H H' → H p = none → (∀ t ∈ ts, H t = none) → p ∉ ts → H' p = some (.lst (ts.map V.ref)) → Paired (fun (t : Addr) (q : L2.Key × V) => H' t = some (.tup [kV q.1, q.2])) ts kvs → Q (.ref p) H'
theorem paired_map {α β : Type} {R S : α → β → Prop} (h : ∀ a b, R a b → S a b) : ∀ {xs : List α} {ys : List β}, Paired R xs ys → Paired S xs ys
  | _, _, .nil => .nil
  | _, _, .cons r t => .cons (h _ _ r) (paired_map h t)
theorem pe_itemsT (h : PE X e (LiI.tListItems (tVar i))) : PE X e (tItemsT i) := ⟨fun pins s σ H Q I ⟨d, kvs, hi, hd, q⟩ =>
  thn (h.run pins s σ H (fun v H' => ∃ (p : Addr) (ts : List Addr), v = .ref p ∧ (∀ b o, H b = some o → H' b = some o) ∧ H p = none ∧ (∀ t ∈ ts, H t = none) ∧ p ∉ ts ∧ H' p = some (.lst (ts.map V.ref)) ∧ Paired (fun (t : Addr) (q : L2.Key × V) => H' t = some (.tup [kV q.1, q.2])) ts kvs) I
    ⟨.ref d, hi, d, kvs, rfl, hd, fun H' p ts a b c e f g => ⟨p, ts, rfl, a, b, c, e, f, g⟩⟩) fun u s1 ⟨v, H', J, rv, p, ts, ev, a, b, c, e, f, g⟩ =>
    ⟨v, thin H H', inv_thin I J, rv, by
      rw [ev]
      exact q _ p ts (fun x o hx => thin_of (a x o hx) (.inr (by rw [hx]; simp))) (thin_noT fun x o hx _ => a x o hx) b c e (thin_of f (.inl True.intro)) (paired_map (fun t q hq => thin_of (o := .tup [kV q.1, q.2]) hq (.inl True.intro)) g)⟩⟩
def dItemsO (i : Nat) : TDE := fun env P => ob (env[i]?) fun e => match e with
  | .od kds => P (.lst (kds.map fun kd => .tup [kdD kd.1, kd.2]))
  | _ => False
theorem items_dd {env : De} {σ : L2.St} {L : List Addr} {H H' : Hp} {p : Addr} (A : Abs F env σ L H) (k : ∀ b o, H b = some o → H' b = some o) (hp : H p = none) : ∀ {ts : List Addr} {kvs : List (L2.Key × V)} {kds : List (L2.Key × D)}, (∀ t ∈ ts, H t = none) → p ∉ ts → Paired (fun (t : Addr) (q : L2.Key × V) => H' t = some (.tup [kV q.1, q.2])) ts kvs → kvs.map (·.1) = kds.map (·.1) → DdAll F.K (F.N L) F.W H (kvs.map (·.2)) (kds.map (·.2)) →
    DdAll F.K (F.N (p :: L)) F.W H' (ts.map V.ref) (kds.map fun kd => .tup [kdD kd.1, kd.2])
  | _, _, [], _, _, .nil, _, _ => .nil
  | _, _, _ :: _, _, _, .nil, e, _ => by cases e
  | _, _, [], _, _, .cons _ _, e, _ => by cases e
  | t :: ts, kv :: kvs, (k1, d1) :: kds, h1, h2, .cons r rs, e, .cons hd hr => by
    have e1 : kv.1 = k1 := (List.cons.inj e).1
    have nt := h1 t List.mem_cons_self
    have tp : t ≠ p := fun z => h2 (by rw [z]; exact List.mem_cons_self)
    have nN : ∀ x, H x = none ∨ ¬ F.N L x → x ≠ p → ¬ F.N (p :: L) x := fun x hx ne z => by
      rcases z with z | z
      · rcases hx with hx | hx
        · obtain ⟨o, ho⟩ := A.alN (.inl z : F.N L x)
          rw [hx] at ho; cases ho
        · exact hx (.inl z)
      · rcases List.mem_cons.mp z with z | z
        · exact ne z
        · rcases hx with hx | hx
          · obtain ⟨o, ho⟩ := A.alN (.inr z : F.N L x)
            rw [hx] at ho; cases ho
          · exact hx (.inr z)
    have hd' : Dd F.K (F.N (p :: L)) F.W H' kv.2 d1 := Dd.pres (fun a o n g => ⟨nN a (.inr n) (fun z => by rw [z, hp] at g; cases g), k a o g⟩) hd
    rw [List.map_cons, List.map_cons]
    refine .cons (.tup r (nN t (.inl nt) tp) (.cons ?_ (.cons hd' .nil))) (items_dd A k hp (fun t ht => h1 t (List.mem_cons_of_mem _ ht)) (fun z => h2 (List.mem_cons_of_mem _ z)) rs (List.cons.inj e).2 hr)
    rw [e1]
    exact kdD_dd k1
theorem dn_items (h : PE X (.Call (.Name "list" p) [.Call (.Attribute e "items" apos) [] [] cpos] [] pos) (LiI.tListItems (tVar i))) : PE X (.Call (.Name "list" p) [.Call (.Attribute e "items" apos) [] [] cpos] [] pos) (lN F (dItemsO i)) := PE.mono (pe_itemsT h) fun σ H Q ⟨env, L, P, A, pp, q⟩ => by
  obtain ⟨en, he, pn⟩ := ob_elim pp
  cases en with
  | od kds =>
    have hi : i < σ.length := by rw [← A.ls]; exact (List.getElem?_eq_some_iff.mp he).1
    have hs : σ[i]? = some (σ[i]) := List.getElem?_eq_getElem hi
    have ok := A.en i _ _ he hs
    cases hv : σ[i] with
    | none => rw [hv] at ok; exact ok.elim
    | some v =>
      rw [hv] at ok hs
      cases v with
      | ref d =>
        obtain ⟨_, kvs, h2, h3, h4⟩ := ok
        exact ⟨d, kvs, hs, h2, fun H' p ts a nT b c e1 f g => q _ _ _ pn (fun x o _ hx => a x o hx) (Wd.st A.ok (fun x o hx _ => a x o hx) nT) b ⟨_, f, items_dd A a b c e1 g h3 h4⟩⟩
      | _ => exact ok.elim
  | _ => exact pn.elim
variable {o f : Expr} {d dk dv : TDE}
end
end DL
namespace RK
open PySem PySem.Spec PyProof.Rows L2
section
variable {P : Program} {w : World} {A : Around} {E : Value → Shared → Prop} {s : Shared}
abbrev TuK (P : Program) (w : World) (h : Heap) (k : List Key) (b : Addr) : Prop := IsTupleKey (mixKind P w) h k b
abbrev hsh (P : Program) (w : World) (k : List Key) : Int := tupleKeyHash (mixKind P w) k
abbrev Lf (vs : List Value) : Prop := ∀ v ∈ vs, (∃ i t, v = Value.int i t) ∨ ∃ x t, v = Value.str x t
abbrev AllT (P : Program) (w : World) (h : Heap) (ys : List Value) : Prop := ∀ y ∈ ys, ∃ k c, y = Value.ref c ∧ TuK P w h k c
abbrev Mem := Addr × List Key
def entries (P : Program) (w : World) (L : List Mem) : List (Int × Value) := L.map fun p => (hsh P w p.2, Value.ref p.1)
def hashes (P : Program) (w : World) (L : List Mem) : List Int := L.map fun p => hsh P w p.2
structure TSt (P : Program) (w : World) (h : Heap) (a : Addr) (L : List Mem) (es : Array (Int × Value)) (ep : Nat) (t : SetTable) : Prop where
  ob : ∃ o, h.get? a = some o ∧ o.ExactSet ∧ o.data = .set es ep t
  es : es.toList = entries P w L
  tb : TabOk t (hashes P w L)
  nd : (L.map (·.2)).Nodup
  tu : ∀ p ∈ L, TuK P w h p.2 p.1
  ld : w.params.followText "set-order" = true ∨ t.led = true
  rm : L.length * 5 < t.mask * 3
  fw : L.length < 64
variable {a : Addr} {L : List Mem} {es : Array (Int × Value)} {ep : Nat} {t : SetTable}
theorem ent_size (h : es.toList = entries P w L) : es.size = L.length := by
  have := congrArg List.length h
  rwa [Array.length_toList, entries, List.length_map] at this
theorem hashes_len (L : List Mem) : (hashes P w L).length = L.length := List.length_map _
theorem fits_of (h1 : t.place.size = es.size) (h2 : t.dummies = #[]) (h3 : es.size ≤ t.mask) : t.fits es.size = true := by
  unfold SetTable.fits SetTable.fill
  rw [h2, Bool.and_eq_true, beq_iff_eq, decide_eq_true_eq]
  exact ⟨h1, by show t.place.size + 0 ≤ _; omega⟩
theorem TSt.fits (R : TSt P w s.heap a L es ep t) : t.fits es.size = true := by
  have h1 := R.tb.sz
  have h2 := ent_size R.es
  have h3 := R.rm
  rw [hashes_len] at h1
  exact fits_of (h1.trans h2.symm) R.tb.dm (by omega)
abbrev stp (t : SetTable) (h : Int) (c : Nat) : SetTable.Probe := nth t.mask (runAt t.mask (SetTable.bits h % (t.mask + 1)) (SetTable.bits h)) c
end
end RK
namespace RK
open PySem PySem.Spec PyProof.Rows L2
structure Met (ks : List Mem) (i : Nat) (L : List Mem) : Prop where
  sub : ∀ p ∈ L, p ∈ ks.take i
  all : ∀ p ∈ ks.take i, p.2 ∈ L.map (·.2)
theorem take_one {α : Type} {l : List α} {i : Nat} {x : α} (h : l[i]? = some x) : l.take (i + 1) = l.take i ++ [x] := by
  rw [List.take_succ, h]
  rfl
theorem Met.old {ks L : List Mem} {i : Nat} {x : Mem} (g : Met ks i L) (h : ks[i]? = some x) (hm : x.2 ∈ L.map (·.2)) : Met ks (i + 1) L := by
  constructor
  · exact fun p hp => by rw [take_one h]; exact List.mem_append_left _ (g.sub p hp)
  · intro p hp
    rw [take_one h] at hp
    rcases List.mem_append.mp hp with z | z
    · exact g.all p z
    · rw [List.mem_singleton.mp z]; exact hm
theorem Met.new {ks L L' : List Mem} {i : Nat} {x : Mem} (g : Met ks i L) (h : ks[i]? = some x) (pm : L'.Perm (x :: L)) : Met ks (i + 1) L' := by
  constructor
  · intro p hp
    rw [take_one h]
    rcases List.mem_cons.mp (pm.mem_iff.mp hp) with e | z
    · exact List.mem_append_right _ (List.mem_singleton.mpr e)
    · exact List.mem_append_left _ (g.sub p z)
  · intro p hp
    rw [(pm.map (·.2)).mem_iff, List.map_cons]
    rw [take_one h] at hp
    rcases List.mem_append.mp hp with z | z
    · exact List.mem_cons_of_mem _ (g.all p z)
    · rw [List.mem_singleton.mp z]; exact List.mem_cons_self
section
variable {P : Program} {w : World} {A : Around} {E : Value → Shared → Prop} {s : Shared}
theorem TSt.keep {h h' : Heap} {a : Addr} {L : List Mem} {es : Array (Int × Value)} {ep : Nat} {t : SetTable} (R : TSt P w h a L es ep t) (ka : ∀ o, h.get? a = some o → h'.get? a = some o) (ht : ∀ p ∈ L, TuK P w h' p.2 p.1) : TSt P w h' a L es ep t :=
  let ⟨o, ho, r⟩ := R.ob
  ⟨⟨o, ka o ho, r⟩, R.es, R.tb, R.nd, ht, R.ld, R.rm, R.fw⟩
end
end RK
namespace DL
open PySem PySem.Spec PyProof.Rows L2 RK
section
variable {X : Cx} {F : Fx} {e : Expr} {d : TDE} {pos p : Pos}
end
end DL
namespace RK
open PySem PySem.Spec PyProof.Rows L2
section
variable {prog : Program} {w : World} {A : Around} {R : Result → Shared → Prop} {s : Shared} {ev x0 l0 x1 l1 : Expr} {c0 c1 : List Expr} {sco : Scope} {pos : Pos} {it acc : Value} {env : Env}
abbrev sc2 (ev x0 l0 x1 l1 : Expr) (c0 c1 : List Expr) (sco : Scope) (pos : Pos) : Expr := .SetComp ev [⟨x0, l0, c0, 0⟩, ⟨x1, l1, c1, 0⟩] sco pos
abbrev tstS (cs : List Expr) (env : Env) : Sem Bool := forIn cs true fun z g => if g = true then do let b ← isTrue z env (eval z env); pure (ForInStep.yield b) else pure (ForInStep.yield g)
abbrev nb (prog : Program) (w : World) (A : Around) (env : Env) (R : Result → Shared → Prop) : Value → Shared → Prop := notedBy (model prog w) A env fun e s' => R (.error e) s'
end
def Has (w : World) (h : Heap) (D : Addr) (acc : List Int) : Prop := ∃ n, SetR w h D (fun k => decide (k ∈ acc)) n ∧ n ≤ acc.length
theorem Has.keep {w : World} {h h' : Heap} {D : Addr} {acc : List Int} (R : Has w h D acc) (k : ∀ o, h.get? D = some o → h'.get? D = some o) : Has w h' D acc := let ⟨n, r, l⟩ := R; ⟨n, r.at k, l⟩
theorem Has.ob {w : World} {h : Heap} {D : Addr} {acc : List Int} (R : Has w h D acc) : ∃ o, h.get? D = some o ∧ ∀ v, o.data ≠ .cell v := by
  obtain ⟨n, ⟨o, es, ep, t, ho, _, hd, _⟩, _⟩ := R
  exact ⟨o, ho, fun v z => by rw [hd] at z; cases z⟩
section
variable {X Y : Cx} {pins ps : List (Addr × Obj)} {σ τ : L2.St} {s0 s : Shared} {H0 H : Hp} {sco : Scope} {own : List (Str × Nat)} {D : Addr} {acc : List Int} {fp : List Addr}
end
end RK
namespace RK
open PySem PySem.Spec PyProof.Rows L2
section
variable {P : Program} {w : World} {A : Around} {E : Value → Shared → Prop} {s : Shared}
end
end RK
namespace DL
open PySem PySem.Spec PyProof.Rows L2 RK
section
variable {X : Cx} {F : Fx} {e : Expr} {d : TDE} {pos p : Pos}
end
section
variable {F : Fx} {env : De} {σ : L2.St} {L : List Addr} {H H' : Hp} {d : Addr} {kvs : List (Key × V)}
end
end DL
namespace DL
open PySem PySem.Spec PyProof.Rows L2 RK
section
variable {X : Cx} {F : Fx} {c : Expr} {pos : Pos} {i j : Nat} {sa rest : List Stmt} {r r2 : TDS} {t : TDT}
end
end DL
namespace DL
open PySem PySem.Spec PyProof.Rows L2 RK
section
variable {X : Cx} {F : Fx} {a b c : Expr} {d da db dc : TDE} {pos p : Pos} {kk : Nat}
end
end DL
namespace DL
open PySem PySem.Spec PyProof.Rows L2 RK
section
variable {F : Fx} {da db : TDE} {i j : Nat} {K : PySem.W.Frag}
end
end DL
namespace DL
open PySem PySem.Spec PyProof.Rows L2 RK
section
variable {F : Fx} {da db dx dy : TDE} {i : Nat}
variable {j : Nat} {K : PySem.W.Frag}
end
end DL
namespace DL
open PySem PySem.Spec PyProof.Rows L2 RK
section
variable {F : Fx} {env : De} {σ : L2.St} {L L' : List Addr} {H H' : Hp}
theorem EnOk.pres (A : Abs F env σ L H) (pr : Pres F L H L' H') : ∀ {e : En} {x : Option V}, (∀ a, x = some (.ref a) → e.isOw = true → a ∈ L → a ∈ L' ∧ ∀ o, H a = some o → H' a = some o) → (∀ b ∈ e.ad, b ∈ L → b ∈ L' ∧ ∀ o, H b = some o → H' b = some o) → EnOk F L H e x → EnOk F L' H' e x
  | .no, _, _, _, _ => trivial
  | .fz d, some v, _, _, h => Dd.pres pr h
  | .oo C a fs, some (.ref b), _, g, ⟨h1, h2, h3, dx, vs, h4, h5⟩ => ⟨h1, fun x hx => (g x hx (h2 x hx)).1, h3, dx, vs, (g a List.mem_cons_self (h2 a List.mem_cons_self)).2 _ h4, h5.pres pr fun x hx => (g x (List.mem_cons_of_mem _ hx) (h2 x (List.mem_cons_of_mem _ hx))).2⟩
  | .fe e, some v, _, g, ⟨h2, h3, h4⟩ => ⟨fun x hx => (g x hx (h2 x hx)).1, h3, h4.pres pr fun x hx => (g x hx (h2 x hx)).2⟩
  | .ow ds, some (.ref a), g, _, ⟨h1, vs, h2, h3⟩ => let ⟨g1, g2⟩ := g a rfl rfl h1; ⟨g1, vs, g2 _ h2, DdAll.pres pr h3⟩
  | .od ds, some (.ref a), g, _, ⟨h1, vs, h2, h4, h3⟩ => let ⟨g1, g2⟩ := g a rfl rfl h1; ⟨g1, vs, g2 _ h2, h4, DdAll.pres pr h3⟩
  | .ot ds, some (.ref a), g, _, ⟨h1, vs, h2, h4, h3⟩ => let ⟨g1, g2⟩ := g a rfl rfl h1; ⟨g1, vs, g2 _ h2, h4, DdAll.pres pr h3⟩
  | .otr G ds, some (.ref a), g, _, ⟨h1, vs, h2, h3⟩ => let ⟨g1, g2⟩ := g a rfl rfl h1; ⟨g1, vs, g2 _ h2, h3.pres pr⟩
end
section
variable {X : Cx} {F : Fx} {o value : Expr} {f : Str} {pos pos' : Pos} {i : Nat} {C : Addr} {d dk dv : TDE}
end
end DL
namespace DL
open PySem PySem.Spec PyProof.Rows L2 RK
section
variable {F : Fx} {env : De} {σ : L2.St} {L L' : List Addr} {H H' : Hp}
end
section
variable {X : Cx} {F : Fx} {o e value : Expr} {f : Str} {pos pos' fpos : Pos} {i : Nat} {C : Addr} {d dk dv : TDE}
end
end DL
namespace DL
open PySem PySem.Spec PyProof.Rows L2 RK
abbrev DSpO := List (Str × Fe) → List D → (List (Str × Fe) → Prop) → Prop
structure ObEnd (K : PySem.W.Frag) (W : Wd) (N0 : Addr → Prop) (C a : Addr) (ft : List Addr) (H : Hp) (fs' : List (Str × Fe)) (H' : Hp) : Prop where
  ok : W.ok H'
  kp : ∀ x o, x ∉ ft → ¬ W.own x → H x = some o → H' x = some o
  en : ∃ L', (∀ x ∈ L', x ∈ ft ∨ H x = none) ∧ (∀ x ∈ L', ∃ o, H' x = some o ∧ Plo o) ∧ EnOk ⟨K, W, N0, H, .b false⟩ L' H' (.oo C a fs') (some (.ref a))
def PO (C a : Addr) (P : List (Str × Fe) → Prop) : De → Prop := fun env => ∃ fs', env[0]? = some (.oo C a fs') ∧ P fs'
section
variable {X : Cx} {F : Fx} {pos : Pos} {e : Expr} {d : TDE} {PB : De → Prop}
end
section
variable {F : Fx} {X : Cx} {env : De} {σ : L2.St} {L : List Addr} {H : Hp}
end
end DL
namespace DL
open PySem PySem.Spec PyProof.Rows L2 RK
section
variable {X : Cx} {F : Fx} {o e : Expr} {es : List Expr} {ds : TDA} {m : Str} {pos cpos apos p : Pos} {i : Nat} {C f : Addr} {CX : CXT} {k : Nat} {fd : FuncData} {ps : List Str} {sp : DSpO} {E : XK} {K : PySem.W.Frag}
end
end DL
namespace RK
open PySem PySem.Spec PyProof.Rows L2 DL
section
variable {prog : Program} {w : World} {d : Addr} {es : Array DictEntry} {ep : Nat}
end
section
variable {X : Cx}
end
end RK
namespace DL
open PySem PySem.Spec PyProof.Rows L2 RK
section
variable {X : Cx} {F : Fx} {e : Expr} {d : TDE} {p pos : Pos}
end
end DL
namespace DL
open PySem PySem.Spec PyProof.Rows L2 RK
section
variable {F : Fx} {da db dc : TDE} {i j l : Nat}
def D.flat1 : D → Bool
  | .tup ds => ds.all D.leaf
  | d => d.leaf
def dLendT (i : Nat) (d : TDE) : TDE := fun env P => ob (env[i]?.bind frz) fun e => d (env.set i e) fun x => x.flat1 = true ∧ P x
theorem leaf_all {K : PySem.W.Frag} {N N' : Addr → Prop} {W : Wd} {H : Hp} : ∀ {vs : List V} {ds : List D}, ds.all D.leaf = true → DdAll K N W H vs ds → DdAll K N' W H vs ds
  | _, _, _, .nil => .nil
  | _, _, l, .cons h t => by
    rw [List.all_cons, Bool.and_eq_true] at l
    exact .cons (leaf_any l.1 h) (leaf_all l.2 t)
theorem dd_lendT {X : Cx} {e : Expr} {d : TDE} (h : PE X e (lC F d)) : PE X e (lC F (dLendT i d)) := PE.mono h fun σ H Q ⟨env, L, P, A, pp, q⟩ => by
  obtain ⟨e, h1, pp⟩ := ob_elim pp
  obtain ⟨L', B⟩ := abs_frz A h1
  refine ⟨_, L', _, B, pp, fun x v H' px k o dd => q x v H' px.2 k o ?_⟩
  cases x with
  | tup ds =>
    obtain ⟨a, vs, rfl, g1, g2, g3⟩ := dd_tupE dd
    have l := px.1
    cases dd with
    | tup h1 _ h3 =>
      refine .tup h1 (fun z => ?_) (leaf_all l h3)
      obtain ⟨o', eo⟩ := (A.step k o).alN z
      rw [h1] at eo
      exact (Option.some.inj eo ▸ o'.2 : Nt (.tup _))
  | _ => exact leaf_any px.1 dd
end
end DL
namespace DL
open PySem PySem.Spec PyProof.Rows L2 RK
section
variable {F : Fx} {env : De} {σ : L2.St} {L L' : List Addr} {H H' : Hp}
section
variable {N : Addr → Prop} {K : PySem.W.Frag} {W : Wd}
end
mutual
def D.pure : D → Bool
  | .non => true | .bl _ => true | .int _ => true | .str _ => true
  | .tup xs => D.pureL xs
  | .ktp xs => D.pureL xs
  | _ => false
def D.pureL : List D → Bool
  | [] => true
  | x :: xs => x.pure && D.pureL xs
end
mutual
theorem pure_dd {N N' : Addr → Prop} {K : PySem.W.Frag} {W : Wd} (nt : ∀ x vs, H x = some (.tup vs) → ¬ N' x) : ∀ {v : V} {d : D}, d.pure = true → Dd K N W H v d → Dd K N' W H v d
  | _, _, _, .non => .non
  | _, _, _, .bl b => .bl b
  | _, _, _, .int i => .int i
  | _, _, _, .str x => .str x
  | _, _, p, .tup h _ a => .tup h (nt _ _ h) (pure_ddL nt (by unfold D.pure at p; exact p) a)
  | _, _, p, .ktp h1 h2 h3 h4 h5 a => .ktp h1 h2 h3 h4 h5 (pure_ddL nt (by unfold D.pure at p; exact p) a)
  | _, _, p, .lst _ _ _ => by unfold D.pure at p; cases p
  | _, _, p, .dic _ _ _ _ => by unfold D.pure at p; cases p
  | _, _, p, .dct _ _ _ _ => by unfold D.pure at p; cases p
  | _, _, p, .obj _ _ _ _ => by unfold D.pure at p; cases p
  | _, _, p, .bag _ => by unfold D.pure at p; cases p
  | _, _, p, .fn _ _ => by unfold D.pure at p; cases p
  | _, _, p, .tr _ _ _ => by unfold D.pure at p; cases p
theorem pure_ddL {N N' : Addr → Prop} {K : PySem.W.Frag} {W : Wd} (nt : ∀ x vs, H x = some (.tup vs) → ¬ N' x) : ∀ {vs : List V} {ds : List D}, D.pureL ds = true → DdAll K N W H vs ds → DdAll K N' W H vs ds
  | _, _, _, .nil => .nil
  | _, _, p, .cons h a => by
    unfold D.pureL at p
    rw [Bool.and_eq_true] at p
    exact .cons (pure_dd nt p.1 h) (pure_ddL nt p.2 a)
end
theorem Abs.noTp (A : Abs F env σ L H) : ∀ x vs, H x = some (.tup vs) → ¬ F.N L x := fun x vs h z => by
  obtain ⟨o, e⟩ := A.alN z
  rw [h] at e
  exact (Option.some.inj e ▸ o.2 : Nt (.tup vs))
end
end DL
namespace DL
open PySem PySem.Spec PyProof.Rows L2 RK
def icAd (cs : List (Key × Ic)) : List Addr := cs.flatMap (·.2.ad)
section
variable {F : Fx} {env : De} {σ : L2.St} {L L' : List Addr} {H H' : Hp}
end
section
variable {X : Cx} {F : Fx} {o e value : Expr} {key : Str} {pos pos' pos2 : Pos} {i : Nat} {d dk dv : TDE}
end
end DL
namespace DL
open PySem PySem.Spec PyProof.Rows L2 RK
section
variable {X : Cx} {F : Fx} {o e value : Expr} {key : Str} {pos pos' pos2 pos3 : Pos} {i : Nat} {d dk dv : TDE}
end
end DL
namespace DL
open PySem PySem.Spec PyProof.Rows L2 RK
inductive Itm where
  | c (d : TDE) | n (d : TDE)
def icO (a : Addr) : D → Ic
  | .lst xs => .lst a xs
  | .dic k => .dic a k
  | .dct k => .dct a k
  | x => .fz x
def mkCs : List (Str × Itm) → List D → List Addr → List (Key × Ic)
  | (k, .c _) :: r, x :: xs, _ :: as => (Sum.inr k, .fz x) :: mkCs r xs as
  | (k, .n _) :: r, x :: xs, a :: as => (Sum.inr k, icO a x) :: mkCs r xs as
  | _, _, _ => []
def Itm.t (F : Fx) : Itm → TE
  | .c d => lC F d
  | .n d => lN F d
section
variable {F : Fx} {env : De} {σ : L2.St}
structure Held (F : Fx) (env : De) (σ : L2.St) (L : List Addr) (H : Hp) (ps : List (Str × Itm)) (xs : List D) (as : List Addr) (vs : List (Key × V)) (L' : List Addr) (H' : Hp) : Prop where
  ab : Abs F env σ L' H'
  kp : KeepW F.W H H'
  sub : ∀ x ∈ L, x ∈ L'
  pr : Pres F L H L' H'
  lx : xs.length = ps.length
  la : as.length = ps.length
  ic : IcAll F L' H' vs (mkCs ps xs as)
  lo : ∀ x ∈ icAd (mkCs ps xs as), x ∈ L' ∧ x ∉ L ∧ Lone env σ x
  nd : (icAd (mkCs ps xs as)).Nodup
variable {X : Cx} {pos : Pos} {keys : List (Option Expr)} {values : List Expr} {ps : List (Str × Itm)}
end
end DL
namespace DL
open PySem PySem.Spec PyProof.Rows L2 RK
abbrev TDB := De → (De → Prop) → Prop
section
variable {X : Cx} {F : Fx} {o e e1 e2 c : Expr} {es : List Expr} {ds : TDA} {m : Str} {pos cpos apos p : Pos} {i : Nat} {C f : Addr} {CX : CXT} {k : Nat} {fd : FuncData} {ps : List Str} {sp : DSpO} {E : XK} {K : PySem.W.Frag} {da db : TDB} {t : TDT} {PB : De → Prop}
def dLenO (C : Addr) (sp : DSp) (d : TDE) : TDE := fun env P => d env fun x => match x with
  | .obj C1 fs => C1 = C ∧ sp [.obj C1 fs] fun v => ∃ n : Nat, v = .int (n : Nat) ∧ n ≤ 1000000 ∧ P (.int (n : Nat))
  | _ => False
theorem dd_lenO {spl : DSp} {fr : Fr} {d : TDE} {E : XK} {CX : CXT} {n : Nat} (Fn : FnOk X.prog X.w X.K X.mg X.base CX n f fd ps (lSp X.K fr spl)) (hr : Room (n + 1) X.A)
    (hs : PySem.W.findIn X.K (.ref C) "__len__" = some (some (.ref f))) (hf : PySem.W.isFn X.K (.ref f) = true) (hbd : Binds X.K fd ps []) (hx : Passes CX X E) (hg : Gl X "len") (hm : X.mg "len" = none) (ha : PE X e (lC F d)) (he : starEach [e] X.env = (false, eval e X.env) :: starEach [] X.env := by rfl) (hpl : (backTo pos (starEach [] X.env)).any (·.1) = false := by rfl) (hK : F.K = X.K := by rfl) :
    PE X (.Call (.Name "len" p) [e] [] pos) (lC F (dLenO C spl d)) := PE.mono (pe_callB (call_lenOwn Fn hr hs hf hbd hx) hg hm (by decide +kernel) (pa_cons ha pa_nil he) (by decide) (by decide) he hpl) fun σ H Q ⟨env, L, P, A, pp, q⟩ =>
  ⟨env, L, _, A, pp, fun x v H1 px k1 o1 d1 => by
    cases x with
    | obj C1 fs =>
      obtain ⟨rfl, py⟩ := px
      have A1 := A.step k1 o1
      obtain ⟨t, dx, us, rfl, h1, _⟩ := dd_objE d1
      rw [← hK]
      exact ⟨t, dx, us, rfl, h1, F.W, F.N L, _, _, fun a h => A1.alN h, fun a h => .inl (A.wn a h), o1, .cons d1 .nil, py, fun x v H3 p3 k3 o3 d3 _ => by
        obtain ⟨n, rfl, hn, pb⟩ := p3
        cases d3
        exact ⟨_, rfl, by omega, by omega, q _ _ H3 pb (k1.trans k3) o3 (.int _)⟩⟩
    | _ => exact px.elim⟩
end
end DL
namespace DL
open PySem PySem.Spec PyProof.Rows L2 RK
section
variable {X : Cx} {F : Fx} {e : Expr} {es : List Expr} {ds dk : TDA} {pos p : Pos} {CX : CXT} {k n m : Nat} {f : Addr} {fd : FuncData} {ps ks : List Str} {sp : DSpX} {E : XK} {x : Str} {fr : Fr} {K : PySem.W.Frag} {PX : Er → Prop}
end
end DL
namespace RK
open PySem PySem.Spec PyProof.Rows L2
section
variable {K : PySem.W.Frag} {x qual : Str} {params : Arguments} {body : List Stmt} {scope : Scope} {kws : List (Str × V)} {f : Addr} {fd : FuncData} {ps : List Str}
end
abbrev ag (s : Str) : Arg := { arg := s, annotation := none, pos := ⟨0, 0, 0, 0⟩ }
example {D : Addr} {doc pm : Value} {an : Option Addr} {cdv ct : Value} {x qual : Str} {body : List Stmt} {scope : Scope} {e1 e2 : Expr} (u1 u2 m w : Value) :
    KwChain D [(("fixed" : Str), m)] (bindArgs (PySem.W.fnOf x qual { posonlyargs := [], args := [ag "order", ag "wish"], vararg := none, kwonlyargs := [ag "costs", ag "fixed"], kw_defaults := [some e1, some e2], kwarg := none, defaults := [] } body scope .none (.ref D) doc pm an cdv ct) ⟨[u1, u2], [("costs", w)]⟩)
      [(("order" : Str), u1), ("wish", u2), ("costs", w), ("fixed", m)] := by
  exact ⟨_, _, _, _, _, _, rfl, rfl, rfl⟩
end RK
namespace DL
open PySem PySem.Spec PyProof.Rows L2 RK
section
variable {X : Cx} {F : Fx} {e : Expr} {es : List Expr} {ds dk : TDA} {pos p : Pos} {CX : CXT} {k n m : Nat} {f : Addr} {fd : FuncData} {ps ks : List Str} {E : XK} {x : Str} {fr : Fr} {K : PySem.W.Frag} {PX : Er → Prop} {g : List Value → List Value → List Value} {gV : List V → List V → List V} {gD : List D → List D → List D} {kws : List Keyword}
end
end DL
namespace DL
open PySem PySem.Spec PyProof.Rows L2 RK
abbrev TrL := List (BKey × Option BKey)
section
variable {N : Addr → Prop} {H : Hp} {K : PySem.W.Frag} {W : Wd}
end
section
variable {X : Cx} {F : Fx} {a b o e value : Expr} {da db dk dv : TDE} {pos pos' : Pos} {k : Nat} {i : Nat}
abbrev GX (X : Cx) : GdF := fun _ => Cx.G X
end
end DL
namespace DL
open PySem PySem.Spec PyProof.Rows L2 RK
inductive Emp where
  | lst | dic
def Emp.ho : Emp → HO
  | .lst => .lst []
  | .dic => .dK []
def Emp.d : Emp → D
  | .lst => .lst []
  | .dic => .dic []
def Emp.ic (a : Addr) : Emp → Ic
  | .lst => .lst a []
  | .dic => .dic a []
abbrev TDKs := De → (List Key → Prop) → Prop
structure HeldE (F : Fx) (env : De) (σ : L2.St) (L : List Addr) (H : Hp) (e : Emp) (ks : List Key) (as : List Addr) (b : Addr) (us : List (Key × V)) (L' : List Addr) (H' : Hp) : Prop where
  ab : Abs F env σ L' H'
  kp : KeepW F.W H H'
  pr : Pres F L H L' H'
  sub : ∀ x ∈ L, x ∈ L'
  old : ∀ x ∈ L', x ∈ L ∨ H x = none
  hb : H' b = some (.dK us)
  hk : us.map (·.1) = ks
  hu : us.map (·.2) = as.map V.ref
  ha : ∀ a ∈ as, H' a = some e.ho
  nd : (b :: as).Nodup
  inL : ∀ x ∈ b :: as, x ∈ L'
  fresh : ∀ x ∈ b :: as, H x = none
  nk : ks.Nodup
  la : as.length = ks.length
end DL
namespace DL
open PySem PySem.Spec PyProof.Rows L2 RK
section
variable {X : Cx} {F : Fx} {e o a : Expr} {es : List Expr} {d : TDE} {ds : TDA} {pos p : Pos} {i j : Nat} {env : De} {σ : L2.St} {L : List Addr} {H H' : Hp}
def D.shal : D → Bool
  | .lst xs => D.pureL xs
  | .dic k => D.pureL (k.map (·.2))
  | .dct k => D.pureL (k.map (·.2))
  | _ => false
end
end DL
namespace DL
open PySem PySem.Spec PyProof.Rows L2 RK
section
variable {X : Cx} {F : Fx} {e o a e1 e2 value : Expr} {es : List Expr} {d dv dk dk1 dk2 : TDE} {ds : TDA} {pos p pos' : Pos} {i j : Nat} {f : Str} {C : Addr}
end
end DL
namespace DL
open PySem PySem.Spec PyProof.Rows L2 RK
section
variable {F : Fx} {env : De} {σ : L2.St} {L L' : List Addr} {H H' : Hp}
end
section
variable {X : Cx} {F : Fx} {o e e1 e2 value : Expr} {f : Str} {pos pos' fpos p2 : Pos} {i : Nat} {C : Addr} {d dk dk1 dk2 dv : TDE}
end
end DL
namespace DL
open PySem PySem.Spec PyProof.Rows L2 RK
section
variable {F : Fx} {env : De} {σ : L2.St} {L : List Addr} {H H' : Hp} {d : Addr} {kvs : List (Key × V)}
theorem IcOk.lk {F' : Fx} (hK : F'.K = F.K) (hW : F'.W = F.W) (hN : F'.N0 = F.N0) (h : LkR H H' d kvs) : ∀ {c : Ic} {v : V}, (∀ a ∈ c.ad, a ≠ d) → IcOk F L H c v → IcOk F' L H' c v := by
  have e : ∀ L, F'.N L = F.N L := fun L => by unfold Fx.N; rw [hN]
  intro c v n q
  cases c with
  | fz x => show Dd F'.K (F'.N L) F'.W H' v x; rw [hK, hW, e]; exact Dd.lk h q
  | lst a ds => obtain ⟨h1, vs, h2, h3⟩ := q; exact ⟨h1, vs, by rw [h.o a (n a List.mem_cons_self)]; exact h2, by rw [hK, hW, e]; exact DdAll.lk h h3⟩
  | dic a ds => obtain ⟨h1, vs, h2, h4, h3⟩ := q; exact ⟨h1, vs, by rw [h.o a (n a List.mem_cons_self)]; exact h2, h4, by rw [hK, hW, e]; exact DdAll.lk h h3⟩
  | dct a ds => obtain ⟨h1, vs, h2, h4, h3⟩ := q; exact ⟨h1, vs, by rw [h.o a (n a List.mem_cons_self)]; exact h2, h4, by rw [hK, hW, e]; exact DdAll.lk h h3⟩
theorem IcAll.lk {F' : Fx} (hK : F'.K = F.K) (hW : F'.W = F.W) (hN : F'.N0 = F.N0) (h : LkR H H' d kvs) : ∀ {cs : List (Key × Ic)} {vs : List (Key × V)}, (∀ a ∈ cs.flatMap (·.2.ad), a ≠ d) → IcAll F L H vs cs → IcAll F' L H' vs cs
  | [], [], _, _ => trivial
  | [], _ :: _, _, q => q.elim
  | _ :: _, [], _, q => q.elim
  | (k', c) :: cs, (k, v) :: vs, n, ⟨h1, h2, h3⟩ => ⟨h1, IcOk.lk hK hW hN h (fun a ha => n a (by rw [List.flatMap_cons]; exact List.mem_append_left _ ha)) h2, IcAll.lk hK hW hN h (fun a ha => n a (by rw [List.flatMap_cons]; exact List.mem_append_right _ ha)) h3⟩
theorem FeOk.lk {F' : Fx} (hK : F'.K = F.K) (hW : F'.W = F.W) (hN : F'.N0 = F.N0) (h : LkR H H' d kvs) : ∀ {c : Fe} {v : V}, (∀ a ∈ c.ad, a ≠ d) → FeOk F L H c v → FeOk F' L H' c v := by
  have e : ∀ L, F'.N L = F.N L := fun L => by unfold Fx.N; rw [hN]
  intro c v n q
  cases c with
  | fz x => show Dd F'.K (F'.N L) F'.W H' v x; rw [hK, hW, e]; exact Dd.lk h q
  | ow a ds => obtain ⟨h1, vs, h2, h3⟩ := q; exact ⟨h1, vs, by rw [h.o a (n a List.mem_cons_self)]; exact h2, by rw [hK, hW, e]; exact DdAll.lk h h3⟩
  | od a ds => obtain ⟨h1, vs, h2, h4, h3⟩ := q; exact ⟨h1, vs, by rw [h.o a (n a List.mem_cons_self)]; exact h2, h4, by rw [hK, hW, e]; exact DdAll.lk h h3⟩
  | ot a ds => obtain ⟨h1, vs, h2, h4, h3⟩ := q; exact ⟨h1, vs, by rw [h.o a (n a List.mem_cons_self)]; exact h2, h4, by rw [hK, hW, e]; exact DdAll.lk h h3⟩
  | on a cs => obtain ⟨h1, vs, h2, h3⟩ := q; exact ⟨h1, vs, by rw [h.o a (n a List.mem_cons_self)]; exact h2, h3.lk hK hW hN h fun x hx => n x (List.mem_cons_of_mem _ hx)⟩
theorem EnOk.lk {F' : Fx} (hK : F'.K = F.K) (hW : F'.W = F.W) (hN : F'.N0 = F.N0) (h : LkR H H' d kvs) (nL : ∀ a ∈ L, a ≠ d) : ∀ {en : En} {x : Option V}, EnOk F L H en x → EnOk F' L H' en x := by
  have e : ∀ L, F'.N L = F.N L := fun L => by unfold Fx.N; rw [hN]
  intro en x q
  cases en with
  | no => trivial
  | fz y => cases x with
    | none => exact q.elim
    | some v => show Dd F'.K (F'.N L) F'.W H' v y; rw [hK, hW, e]; exact Dd.lk h q
  | ow ds => cases x with
    | none => exact q.elim
    | some v => cases v with
      | ref a => obtain ⟨h1, vs, h2, h3⟩ := q; exact ⟨h1, vs, by rw [h.o a (nL a h1)]; exact h2, by rw [hK, hW, e]; exact DdAll.lk h h3⟩
      | _ => exact q.elim
  | od ds => cases x with
    | none => exact q.elim
    | some v => cases v with
      | ref a => obtain ⟨h1, vs, h2, h4, h3⟩ := q; exact ⟨h1, vs, by rw [h.o a (nL a h1)]; exact h2, h4, by rw [hK, hW, e]; exact DdAll.lk h h3⟩
      | _ => exact q.elim
  | ot ds => cases x with
    | none => exact q.elim
    | some v => cases v with
      | ref a => obtain ⟨h1, vs, h2, h4, h3⟩ := q; exact ⟨h1, vs, by rw [h.o a (nL a h1)]; exact h2, h4, by rw [hK, hW, e]; exact DdAll.lk h h3⟩
      | _ => exact q.elim
  | otr G ds => cases x with
    | none => exact q.elim
    | some v => cases v with
      | ref a => obtain ⟨h1, vs, h2, h3⟩ := q; exact ⟨h1, vs, by rw [h.o a (nL a h1)]; exact h2, by rw [e]; exact h3.tup fun b vs e => h.keep e fun o => ⟨fun z => (by cases z), fun z => (by cases z)⟩⟩
      | _ => exact q.elim
  | oo C a fs => cases x with
    | none => exact q.elim
    | some v => cases v with
      | ref b =>
        obtain ⟨h1, h2, h3, dx, vs, h4, h5⟩ := q
        exact ⟨h1, h2, h3, dx, vs, by rw [h.o a (nL a (h2 a List.mem_cons_self))]; exact h4, h5.1, fun i f c hi => let ⟨w, g1, g2⟩ := h5.2 i f c hi; ⟨w, g1, g2.lk hK hW hN h fun y hy => nL y (h2 y (List.mem_cons_of_mem _ (fe_mem hi hy)))⟩⟩
      | _ => exact q.elim
  | fe c => cases x with
    | none => exact q.elim
    | some v => exact ⟨q.1, q.2.1, q.2.2.lk hK hW hN h fun y hy => nL y (q.1 y hy)⟩
open Classical in
noncomputable def relockH (H0 H' : Hp) (d : Addr) : Hp := fun a => if a = d then (match H0 d with | none => none | some _ => H' d) else H0 a
end
inductive Pth where
  | sl (i : Nat) | fl (C : Addr) (i : Nat) (f : Str) | ix (C : Addr) (i : Nat) (f : Str) (j : Nat)
def flD (env : De) (C : Addr) (i : Nat) (f : Str) : Option D := match env[i]? with
  | some (.fz (.obj C' fs)) => if C' = C then fs.lookup f else none
  | _ => none
def slD (env : De) (i : Nat) : Option D := match env[i]? with
  | some (.fz d) => some d
  | _ => none
def Pth.d (env : De) : Pth → Option D
  | .sl i => slD env i
  | .fl C i f => flD env C i f
  | .ix C i f j => (flD env C i f).bind fun x => (slD env j).bind fun y => (getD x y).bind fun z => z
def Pth.t (K : PySem.W.Frag) : Pth → TE
  | .sl i => tVar i
  | .fl _ i f => tFld K (tVar i) f
  | .ix _ i f j => tDGet (tFld K (tVar i) f) (tVar j)
def Pth.ok (K : PySem.W.Frag) : Pth → Prop
  | .sl _ => True
  | .fl C _ f => L2.Cls K C ∧ NoAttr K C f
  | .ix C _ f _ => L2.Cls K C ∧ NoAttr K C f
section
variable {F : Fx} {env : De} {σ : L2.St} {L : List Addr} {H H2 : Hp} {d : Addr} {kvs : List (Key × V)}
theorem PS.or2 {X : Cx} {st : Stmt} {t t' : TS} (h : PS X st t) (h' : PS X st t') : PS X st (fun E σ H => t E σ H ∨ t' E σ H) := ⟨fun pins s σ H E I q => by
  rcases q with q | q
  · exact h.run pins s σ H E I q
  · exact h'.run pins s σ H E I q⟩
theorem PS.ex {X : Cx} {st : Stmt} {α : Type} {t : α → TS} (h : ∀ a, PS X st (t a)) : PS X st (fun E σ H => ∃ a, t a E σ H) := ⟨fun pins s σ H E I ⟨a, q⟩ => (h a).run pins s σ H E I q⟩
abbrev Fx.at (F : Fx) (H0 : Hp) : Fx := ⟨F.K, F.W, F.N0, H0, .b false⟩
end
end DL
namespace RK
open PySem PySem.Spec PyProof.Rows L2
section
variable {prog : Program} {w : World} {A : Around} {R : Result → Shared → Prop} {s : Shared} {kx vx x0 l0 x1 l1 : Expr} {c0 c1 : List Expr} {sco : Scope} {pos : Pos} {it acc : Value} {env : Env}
abbrev dc2 (kx vx x0 l0 x1 l1 : Expr) (c0 c1 : List Expr) (sco : Scope) (pos : Pos) : Expr := .DictComp kx vx [⟨x0, l0, c0, 0⟩, ⟨x1, l1, c1, 0⟩] sco pos
abbrev tstD (cs : List Expr) (env : Env) : Sem Bool := forIn cs true fun z g => if g = true then do let b ← isTrue z env (eval z env); pure (ForInStep.yield b) else pure (ForInStep.yield g)
abbrev nbD (prog : Program) (w : World) (A : Around) (env : Env) (R : Result → Shared → Prop) : Value → Shared → Prop := notedBy (model prog w) A env fun e s' => R (.error e) s'
end
section
variable {X : Cx} {pins : List (Addr × Obj)} {σ τ : L2.St} {s0 s : Shared} {H0 H : Hp} {sco : Scope} {own : List (Str × Nat)} {J : It} {fp : List Addr} {it : Addr} {tn : Nat → Heap → Prop} {i : Nat}
end
end RK
namespace DL
open PySem PySem.Spec PyProof.Rows L2 RK
section
variable {F : Fx} {env : De} {σ : L2.St} {L : List Addr} {H : Hp} {d : Addr} {kvs : List (Key × V)}
end
end DL
namespace DL
open PySem PySem.Spec PyProof.Rows L2 RK
section
variable {X : Cx} {F : Fx} {p : Pth} {tg iter e : Expr} {S vs : List Nat} {g : TDG} {tt : TDT} {te tk tv : TDE}
end
end DL
namespace DL
open PySem PySem.Spec PyProof.Rows L2 RK LamX
section
variable {F : Fx} {ec : ErCl} {d : (Er → Prop) → TDE} {CD CM CL : Addr} {b s : Addr} {T : List (Addr × Str)}
end
end DL
namespace DL
open PySem PySem.Spec PyProof.Rows L2 RK
abbrev DSpOX := List (Str × Fe) → List D → (List (Str × Fe) → Prop) → (Er → Prop) → Prop
section
variable {X : Cx} {F : Fx} {o e : Expr} {es : List Expr} {ds : TDA} {m : Str} {pos cpos apos p : Pos} {i : Nat} {C f : Addr} {CX : CXT} {k : Nat} {fd : FuncData} {ps : List Str} {sp : DSpOX} {E : XK} {K : PySem.W.Frag} {PX : Er → Prop}
end
end DL
namespace DL
open PySem PySem.Spec PyProof.Rows L2 RK LamX
end DL
namespace DL
open PySem PySem.Spec PyProof.Rows L2 RK
def pkI (k : Int) (n : Nat) : List Nat := sliceRange (sliceBounds none none (some k) n).1 (sliceBounds none none (some k) n).2.1 (sliceBounds none none (some k) n).2.2
def stepL {α : Type} (k : Int) (xs : List α) : List α := (pkI k xs.length).filterMap (xs[·]?)
theorem DdAll.step {K : PySem.W.Frag} {N : Addr → Prop} {W : Wd} {H : Hp} {vs : List V} {ds : List D} (a : DdAll K N W H vs ds) (k : Int) : DdAll K N W H (stepL k vs) (stepL k ds) := by
  unfold stepL
  rw [a.len]
  have key : ∀ js : List Nat, DdAll K N W H (js.filterMap (vs[·]?)) (js.filterMap (ds[·]?)) := fun js => by
    induction js with
    | nil => exact .nil
    | cons i js ih =>
      rw [List.filterMap_cons, List.filterMap_cons]
      cases hx : ds[i]? with
      | none =>
        have : vs[i]? = none := List.getElem?_eq_none (by rw [a.len]; exact List.getElem?_eq_none_iff.mp hx)
        rw [this]
        exact ih
      | some x =>
        obtain ⟨v, hv, r⟩ := a.get hx
        rw [hv]
        exact .cons r ih
  exact key _
section
variable {X : Cx} {F : Fx} {e : Expr} {d : TDE} {pos : Pos}
end
end DL
namespace DL
open PySem PySem.Spec PyProof.Rows L2 RK
section
variable {X : Cx} {F : Fx} {e : Expr} {d : TDE} {pos : Pos}
end
end DL
namespace RK
open PySem PySem.Spec PyProof.Rows L2 PySem.W PySem.Calls
def ZSt (z TI TO i1 i2 l1 l2 S : Addr) (xs ys : Array Value) (i : Nat) (h : Heap) : Prop := IsPair h TI (.ref i1) (.ref i2) ∧ h.IsListIter i1 l1 i ∧ h.IsListIter i2 l2 i ∧ h.IsList l1 xs ∧ h.IsList l2 ys ∧
  ((IsZip h z TI TO .none ∧ ∃ a b, IsPair h TO a b) ∨ ∃ T f oT, IsZipHeld h z TI TO T f ∧ h.get? T = some oT ∧ T ≠ z ∧ T ≠ i1 ∧ T ≠ i2 ∧ T ≠ S)
structure ZLow (z TI TO i1 i2 l1 l2 S : Addr) : Prop where
  z : z < S
  TI : TI < S
  TO : TO < S
  i1 : i1 < S
  i2 : i2 < S
  l1 : l1 < S
  l2 : l2 < S
structure ZG (xs ys : Array Value) (lo : Addr) (h : Heap) (as : List Addr) : Prop where
  rise : as.Pairwise (· < ·)
  above : ∀ a ∈ as, lo < a
  pairs : ∀ (j : Nat) (a : Addr), as[j]? = some a → ∃ x y, xs[j]? = some x ∧ ys[j]? = some y ∧ h.get? a = some { cls := .type "tuple", data := .seq #[x, y] }
section
variable {prog : Program} {w : World} {A : Around} {s : Shared} {R : Result → Shared → Prop} {E : Value → Shared → Prop} {z TI TO i1 i2 l1 l2 S : Addr} {xs ys : Array Value} {h h' : Heap} {i : Nat}
theorem ZG.there {lo : Addr} {as : List Addr} (g : ZG xs ys lo h as) {a : Addr} (ha : a ∈ as) : a < h.objs.size := by
  obtain ⟨j, hj⟩ := List.mem_iff_getElem?.mp ha
  obtain ⟨_, _, _, _, e⟩ := g.pairs j a hj
  exact Heap.lt_size e
theorem ZSt.keep (st : ZSt z TI TO i1 i2 l1 l2 S xs ys i h) (D : ZLow z TI TO i1 i2 l1 l2 S) (hk : ∀ b o, b ≠ S → h.get? b = some o → h'.get? b = some o) : ZSt z TI TO i1 i2 l1 l2 S xs ys i h' := by
  obtain ⟨hTI, h1, h2, hl1, hl2, hz⟩ := st
  refine ⟨hk _ _ (Nat.ne_of_lt D.TI) hTI, h1.at fun o e => hk _ o (Nat.ne_of_lt D.i1) e, h2.at fun o e => hk _ o (Nat.ne_of_lt D.i2) e, hl1.at fun o e => hk _ o (Nat.ne_of_lt D.l1) e, hl2.at fun o e => hk _ o (Nat.ne_of_lt D.l2) e, ?_⟩
  rcases hz with ⟨hz, a, b, hTO⟩ | ⟨T, f, oT, hz, hT, r1, r2, r3, r4⟩
  · exact .inl ⟨hk _ _ (Nat.ne_of_lt D.z) hz, a, b, hk _ _ (Nat.ne_of_lt D.TO) hTO⟩
  · exact .inr ⟨T, f, oT, hk _ _ (Nat.ne_of_lt D.z) hz, hk _ _ r4 hT, r1, r2, r3, r4⟩
theorem ZSt.type (st : ZSt z TI TO i1 i2 l1 l2 S xs ys i s.heap) : s.TypeIs (.ref z) "zip" := by
  obtain ⟨_, _, _, _, _, hz⟩ := st
  rcases hz with ⟨hz, _⟩ | ⟨T, f, oT, hz, _⟩
  · exact ⟨_, hz, rfl⟩
  · exact ⟨_, hz, rfl⟩
end
section
variable {X : Cx} {e e2 : Expr} {ta : TA} {p p2 pos pos2 : Pos}
end
end RK
namespace DL
open PySem PySem.Spec PyProof.Rows L2 RK
end DL
namespace DL
open PySem PySem.Spec PyProof.Rows L2 RK
section
variable {X : Cx}
end
section
variable {F : Fx} {d : TDE} {i : Nat}
end
end DL
namespace DL
open PySem PySem.Spec PyProof.Rows L2 RK
section
variable {F : Fx}
end
end DL
namespace DL
open PySem PySem.Spec PyProof.Rows L2 RK
section
variable {F : Fx} {da db dx dy : TDE} {i j : Nat}
end
section
variable {F : Fx}
end
end DL
namespace DL
open PySem PySem.Spec PyProof.Rows L2 RK
section
variable {X : Cx} {F : Fx} {i j : Nat} {it : TDI} {c1 c2 : TDT} {d1 d2 : TDE} {st1 st2 st3 : Stmt} {K : PySem.W.Frag}
theorem Abs.setNo {env : De} {σ : L2.St} {L : List Addr} {H : Hp} (A : Abs F env σ L H) (v : V) (i : Nat) : Abs F (env.set i .no) (σ.set i (some v)) L H := by
  refine ⟨A.ok, A.al, A.wn, A.kp, A.fr, by rw [List.length_set, List.length_set, A.ls], fun j l a ej el h1 h2 o1 o2 s1 s2 => ?_, A.so.set0 rfl rfl _, fun j e y h1 h2 => ?_⟩
  · by_cases hj : i = j
    · subst hj
      by_cases hi : i < env.length
      · rw [List.getElem?_set_self hi] at h1
        cases h1
        cases o1
      · rw [List.getElem?_eq_none (by rw [List.length_set]; omega)] at h1
        cases h1
    · by_cases hl : i = l
      · subst hl
        by_cases hi : i < env.length
        · rw [List.getElem?_set_self hi] at h2
          cases h2
          cases o2
        · rw [List.getElem?_eq_none (by rw [List.length_set]; omega)] at h2
          cases h2
      · rw [List.getElem?_set_ne hj] at h1 s1
        rw [List.getElem?_set_ne hl] at h2 s2
        exact A.sep j l a ej el h1 h2 o1 o2 s1 s2
  · by_cases hj : i = j
    · subst hj
      by_cases hi : i < env.length
      · rw [List.getElem?_set_self hi] at h1
        rw [List.getElem?_set_self (by rw [← A.ls]; exact hi)] at h2
        cases h1
        cases h2
        trivial
      · rw [List.getElem?_eq_none (by rw [List.length_set]; omega)] at h1
        cases h1
    · rw [List.getElem?_set_ne hj] at h1 h2
      exact A.en j e y h1 h2
theorem Abs.weak {env : De} {σ : L2.St} {L : List Addr} {H : Hp} (A : Abs F env σ L H) (i : Nat) : Abs F (env.set i .no) σ L H := by
  refine ⟨A.ok, A.al, A.wn, A.kp, A.fr, by rw [List.length_set, A.ls], fun j l a ej el h1 h2 o1 o2 s1 s2 => ?_, A.so.setS rfl rfl, fun j e y h1 h2 => ?_⟩
  · by_cases hj : i = j
    · subst hj
      by_cases hi : i < env.length
      · rw [List.getElem?_set_self hi] at h1
        cases h1
        cases o1
      · rw [List.getElem?_eq_none (by rw [List.length_set]; omega)] at h1
        cases h1
    · by_cases hl : i = l
      · subst hl
        by_cases hi : i < env.length
        · rw [List.getElem?_set_self hi] at h2
          cases h2
          cases o2
        · rw [List.getElem?_eq_none (by rw [List.length_set]; omega)] at h2
          cases h2
      · rw [List.getElem?_set_ne hj] at h1
        rw [List.getElem?_set_ne hl] at h2
        exact A.sep j l a ej el h1 h2 o1 o2 s1 s2
  · by_cases hj : i = j
    · subst hj
      by_cases hi : i < env.length
      · rw [List.getElem?_set_self hi] at h1
        cases h1
        trivial
      · rw [List.getElem?_eq_none (by rw [List.length_set]; omega)] at h1
        cases h1
    · rw [List.getElem?_set_ne hj] at h1
      exact A.en j e y h1 h2
def ItF (H Hk : Hp) (n : Nat) (v : V) : Prop := ∃ p w rs, v = .ref p ∧ Hk p = some (.tup (.str w :: rs)) ∧ (w ≠ "place" → ∃ l rs' zs, rs = .ref l :: rs' ∧ H l = none ∧ Hk l = some (.lst zs) ∧ zs.length ≤ n ∧ ∀ u ∈ zs, ∃ s, u = V.str s)
theorem ItF.app {H Hk : Hp} {n : Nat} {v : V} (h : ItF H Hk n v) {l : Addr} {us : List V} (e : Hk l = some (.lst us)) (lu : us.length ≤ n) (su : ∀ u ∈ us, ∃ s, u = V.str s) (z : Str) : ItF H (upd Hk l (.lst (us ++ [.str z]))) (n + 1) v := by
  obtain ⟨p, w, rs, rfl, h1, g⟩ := h
  refine ⟨p, w, rs, rfl, ?_, fun hw => ?_⟩
  · rw [upd_ne (ne_of h1 e fun q => nomatch q)]; exact h1
  · obtain ⟨l2, rs', zs, e1, e2, e3, e4, e5⟩ := g hw
    by_cases c : l2 = l
    · subst c
      exact ⟨l2, rs', _, e1, e2, upd_same, by rw [List.length_append]; simp only [List.length_cons, List.length_nil]; omega, fun u hu => (List.mem_append.mp hu).elim (su u) fun q => ⟨z, List.mem_singleton.mp q⟩⟩
    · exact ⟨l2, rs', zs, e1, e2, by rw [upd_ne c]; exact e3, by omega, e5⟩
theorem ItF.up {H Hk : Hp} {n m : Nat} {v : V} (h : ItF H Hk n v) (l : n ≤ m) : ItF H Hk m v := by
  obtain ⟨p, w, rs, e, h1, g⟩ := h
  exact ⟨p, w, rs, e, h1, fun hw => let ⟨l2, rs', zs, e1, e2, e3, e4, e5⟩ := g hw; ⟨l2, rs', zs, e1, e2, e3, by omega, e5⟩⟩
theorem ItF.keep {H Ha Hb : Hp} {n : Nat} {v : V} (h : ItF H Ha n v) (k : ∀ a o, Ha a = some o → (H a = none ∨ ¬ Nt o) → Hb a = some o) : ItF H Hb n v := by
  obtain ⟨p, w, rs, e, h1, g⟩ := h
  exact ⟨p, w, rs, e, k p _ h1 (.inr fun z => z), fun hw => let ⟨l2, rs', zs, e1, e2, e3, e4, e5⟩ := g hw; ⟨l2, rs', zs, e1, e2, k l2 _ e3 (.inl e2), e4, e5⟩⟩
end
end DL
namespace DL
open PySem PySem.Spec PyProof.Rows L2 RK
section
variable {X : Cx} {F : Fx} {env : De} {σ : L2.St} {L : List Addr} {H H' : Hp}
def dCompN (g : TDG) (te : TDE) (P : D → Prop) (env : De) : List D → List D → Prop
  | [], acc => P (.lst acc)
  | x :: xs, acc => g x env fun env' => te env' fun y => (∃ k, y = .dic k ∧ DL.D.pureL (k.map (·.2)) = true) ∧ acc.length < sizeLine ∧ dCompN g te P env xs (acc ++ [y])
def dLcN (it : TDI) (g : TDG) (te : TDE) (vs : List Nat) : TDE := fun env P => it env fun xs => dCompN g te P (wipeE env vs) xs []
theorem star_new (A : Abs F env σ L H) (k : KeepW F.W H H') {a : Addr} (n : H' a = none) (m : ¬ F.N L a) : ¬ starN (F.N L) H a := fun z => by
  rcases z with z | ⟨o, h1, h2⟩
  · exact m z
  · by_cases w : F.W.own a
    · exact m (.inl (A.wn a w))
    · rw [k a o w h1] at n
      cases n
theorem star_tup (A : Abs F env σ L H) (k : KeepW F.W H H') (A' : Abs F env σ L H') : ∀ x vs, H' x = some (.tup vs) → ¬ starN (F.N L) H x := fun x vs h z => by
  rcases z with z | ⟨o, h1, h2⟩
  · exact A'.noTp x vs h z
  · by_cases w : F.W.own x
    · exact A'.noTp x vs h (.inl (A.wn x w))
    · have := k x o w h1
      rw [h] at this
      cases this
      exact h2
theorem shal_dd {N : Addr → Prop} {a : Addr} {x : D} {L' : List Addr} (nt : ∀ x vs, H' x = some (.tup vs) → ¬ N x) (na : ¬ N a) (sh : x.shal = true) (nv : NewV F L' H' a x) : Dd F.K N F.W H' (.ref a) x := by
  cases x with
  | lst xs => obtain ⟨us, g1, g2⟩ := nv; exact .lst g1 na (pure_ddL nt sh g2)
  | dic xs => obtain ⟨us, g1, g3, g2⟩ := nv; exact .dic (.inl g1) na g3 (pure_ddL nt sh g2)
  | dct xs => obtain ⟨us, g1, g3, g2⟩ := nv; exact .dct (.inl g1) na g3 (pure_ddL nt sh g2)
  | _ => cases sh
def GrV (F : Fx) (N : Addr → Prop) (H : Hp) (v : V) (G : D) : Prop := ∃ g us xs, v = .ref g ∧ G = .lst xs ∧ H g = some (.lst us) ∧ ¬ N g ∧ us.Nodup ∧ DdAll F.K N F.W H us xs ∧ ∀ u ∈ us, ∃ a kvs, u = .ref a ∧ ¬ N a ∧ H a = some (.dK kvs)
def lU (F : Fx) (d : TDE) : TE := fun σ H Q => ∃ env L P, Abs F env σ L H ∧ d env P ∧ ∀ x v H', P x → KeepW F.W H H' → F.W.ok H' → GrV F (starN (F.N L) H) H' v x → Q v H'
theorem l_lcU {S vs : List Nat} {it : TDI} {g : TDG} {te : TDE} (hS : ∀ i ∈ S, i ∈ vs) : ∀ σ H Q, lU F (dLcN it g te vs) σ H Q → tLc (lIb F it) (lG F S g) (lT F tYesD) (lN F te) vs σ H Q := fun σ H Q ⟨env, L, P, A, pp, q⟩ =>
  ⟨env, L, _, A, pp, fun xs J H1 px k1 o1 ok D nD => by
    have A1 := A.step k1 o1
    have lo : Lone (wipeE env vs) (wipe σ vs) D := (A1.wipe vs).lone nD
    have B0 : Abs F (wipeE env vs) (wipe σ vs) (D :: L) (upd H1 D (.lst [])) := (A1.wipe vs).hold (x := .lst []) (.new nD) (ok_new o1 nD) nD ⟨[], upd_same, .nil⟩
    have nDs : ¬ starN (F.N L) H D := star_new A k1 nD (A1.new nD)
    have keepD : ∀ {Ha Hb : Hp} {us : List V} {ys : List DL.D}, KeepW F.W Ha Hb → DdAll F.K (fun a => starN (F.N L) H a ∨ a = D) F.W Ha us ys → DdAll F.K (fun a => starN (F.N L) H a ∨ a = D) F.W Hb us ys := fun {Ha Hb us ys} k h => h.keep (fun a o q e => k a o (fun w => q (.inl (.inl (.inl (A.wn a w))))) e) fun _ z => z
    refine ⟨fun i m H' => ∃ acc us, Abs F (wipeE env vs) (wipe σ vs) (D :: L) H' ∧ (∀ a o, ¬ F.W.own a → H1 a = some o → H' a = some o) ∧ H' D = some (.lst us) ∧ DdAll F.K (fun a => starN (F.N L) H a ∨ a = D) F.W H' us acc ∧ us.Nodup ∧ (∀ u ∈ us, ∃ a kvs, u = .ref a ∧ ¬ starN (F.N L) H a ∧ H' a = some (.dK kvs)) ∧ dCompN g te P (wipeE env vs) (xs.drop i) acc ∧ i ≤ xs.length ∧ m = xs.length - i,
      ⟨_, [], [], B0, fun a o _ h => by rw [upd_ne (ne_of_none h nD)]; exact h, upd_same, .nil, List.nodup_nil, (fun u hu => nomatch hu), px, Nat.zero_le _, rfl⟩, ?_⟩
    rintro i m H' ⟨acc, us, B, kk, hD, hu, nd, un, lp, hi, rfl⟩
    obtain ⟨st, go⟩ := ok (F.N (D :: L)) H' (fun a o n h => ⟨fun nn z => by
      rcases z with z | z
      · exact nn (.inl z)
      · rcases List.mem_cons.mp z with z | z
        · rw [z, nD] at h
          cases h
        · exact nn (.inr z), kk a o n h⟩) (fun a h => B.alO h) i
    by_cases hlt : i < xs.length
    · obtain ⟨g1, g2⟩ := go xs[i] (List.getElem?_eq_getElem hlt)
      rw [List.drop_eq_getElem_cons hlt] at lp
      refine .inr ⟨g1, fun H2 => ∃ acc us, Abs F (wipeE env vs) (wipe σ vs) (D :: L) H2 ∧ (∀ a o, ¬ F.W.own a → H1 a = some o → H2 a = some o) ∧ H2 D = some (.lst us) ∧ DdAll F.K (fun a => starN (F.N L) H a ∨ a = D) F.W H2 us acc ∧ us.Nodup ∧ (∀ u ∈ us, ∃ a kvs, u = .ref a ∧ ¬ starN (F.N L) H a ∧ H2 a = some (.dK kvs)) ∧ dCompN g te P (wipeE env vs) (xs.drop (i + 1)) acc,
        fun H2 ⟨acc, us, a1, a2, a3, a4, a5, a6, a7⟩ => ⟨xs.length - (i + 1), by omega, acc, us, a1, a2, a3, a4, a5, a6, a7, hlt, rfl⟩, fun v H2 hy => ?_⟩
      obtain ⟨sm, dd⟩ := g2 v H2 hy
      have B2 := B.step (same_keep sm) (same_ok B.ok sm)
      refine ⟨_, _, _, _, B2, dd, lp, fun env3 σ3 p3 B3 w3 _ => ⟨?_, env3, _, fun b => b = true ∧ te env3 fun y => (∃ k, y = .dic k ∧ DL.D.pureL (k.map (·.2)) = true) ∧ acc.length < sizeLine ∧ dCompN g te P (wipeE env vs) (xs.drop (i + 1)) (acc ++ [y]), B3, ⟨rfl, p3⟩, fun bb H3 p4 k4 o4 => ?_⟩⟩
      · rw [w3 vs hS]
        exact wipe_wipe σ vs
      · obtain ⟨rfl, p4⟩ := p4
        have B4 := B3.step k4 o4
        have W4 : Abs F (wipeE env vs) (wipe σ vs) (D :: L) H3 := B2.step k4 o4
        have nD0 : ¬ F.W.own D := fun z => B.out List.mem_cons_self (B.wn D z)
        refine iteT ⟨env3, _, _, B4, p4, fun y a H5 p5 k5 o5 n5 nv => ?_⟩
        have hD5 : H5 D = some (.lst us) := k5 D _ nD0 (k4 D _ nD0 (sm D _ hD))
        have hu5 := keepD k5 (keepD k4 (keepD (same_keep sm) hu))
        have W5 := W4.step k5 o5
        have kk3 : KeepW F.W H H3 := k1.trans fun x o n h => k4 x o n (sm x o (kk x o n h))
        have kk5 : KeepW F.W H H5 := kk3.trans k5
        have aN : ¬ F.N (D :: L) a := W4.new n5
        have aD : a ≠ D := fun z => aN (.inr (by rw [z]; exact List.mem_cons_self))
        have ast : ¬ starN (F.N L) H a := star_new A kk3 n5 fun z => aN (nl_sub _ z)
        have AL5 : Abs F env σ L H5 := A.step kk5 o5
        obtain ⟨kd, ey, pk⟩ := p5.1
        have sh : y.shal = true := by rw [ey]; exact pk
        have dy : Dd F.K (fun a => starN (F.N L) H a ∨ a = D) F.W H5 (.ref a) y := shal_dd (x := y) (fun x ts h z => by
          rcases z with z | z
          · exact star_tup A kk5 AL5 x ts h z
          · rw [z, hD5] at h; cases h) (fun z => z.elim ast aD) sh nv
        have up : ∀ u ∈ us, ∃ b kvs, u = .ref b ∧ ¬ starN (F.N L) H b ∧ H3 b = some (.dK kvs) := fun u hu2 => by
          obtain ⟨b, kvs, e, nb, hb⟩ := un u hu2
          exact ⟨b, kvs, e, nb, k4 b _ (fun w => nb (.inl (.inl (A.wn b w)))) (sm b _ hb)⟩
        refine ⟨us, hD5, by rw [hu5.len]; exact p5.2.1, acc ++ [y], us ++ [.ref a], W5.poke List.mem_cons_self lo, fun x o n h => ?_, upd_same, (hu5.app (.cons dy .nil)).keep (fun x u q h => ?_) (fun _ z => z), ?_, fun u hu2 => ?_, p5.2.2⟩
        · rw [upd_ne (ne_of_none h nD)]
          exact k5 x o n (k4 x o n (sm x o (kk x o n h)))
        · have ne : x ≠ D := fun z => q (.inr z)
          rw [upd_ne ne]
          exact h
        · refine List.nodup_append.mpr ⟨nd, by simp, fun u hu1 w hw e => ?_⟩
          rw [List.mem_singleton.mp hw] at e
          obtain ⟨b, kvs, e1, _, hb⟩ := up u hu1
          rw [e1] at e
          cases e
          rw [n5] at hb
          cases hb
        · rcases List.mem_append.mp hu2 with h | h
          · obtain ⟨b, kvs, e1, nb, hb⟩ := up u h
            have hb5 := k5 b _ (fun w => nb (.inl (.inl (A.wn b w)))) hb
            exact ⟨b, kvs, e1, nb, by rw [upd_ne (fun z => by rw [z, hD5] at hb5; cases hb5)]; exact hb5⟩
          · rw [List.mem_singleton.mp h]
            rw [ey] at nv
            obtain ⟨kvs, g1, _⟩ := nv
            exact ⟨a, kvs, rfl, ast, by rw [upd_ne aD]; exact g1⟩
    · have e : xs.drop i = [] := List.drop_eq_nil_of_le (by omega)
      rw [e] at lp
      exact .inl ⟨st (by omega), q _ _ H' lp (k1.trans fun a o n h => kk a o n h) B.ok ⟨D, us, acc, rfl, rfl, hD, nDs, nd, hu.keep (fun _ _ _ z => z) fun _ z => .inl z, un⟩⟩⟩
def sGr (i j : Nat) (d1 d2 dv : TDE) (key : Str) (s : TDS) : TDS := fun P env => i < env.length ∧ j < env.length ∧ i ≠ j ∧ d1 env fun G => d2 (env.set i (.fz G)) fun fs => ∃ x0 m ys, G = .lst [x0, .dic m] ∧ fs = .lst ys ∧ D.pureL ys = true ∧ x0.shal = true ∧ D.pureL (m.map (·.2)) = true ∧ m.length < sizeLine ∧ dv ((env.set i .no).set j .no) fun y => y.pure = true ∧ s P ((env.set i (.fz (.lst [x0, .dic (putD m (.inr key) y)]))).set j (.ow ys))
theorem ds_gr {i j : Nat} {d1 d2 dv : TDE} {key : Str} {st1 st2 st3 : Stmt} {rest : List Stmt} {s : TDS} (h1 : PS X st1 (tAsg (lU F d1) (gName i))) (h2 : PS X st2 (tAsg (lN F d2) (gName j)))
    (h3 : PS X st3 (sDPut (tOp (rIxL F.K) (tVar i) (tC (.int 1))) (tC (.str key)) (lC F dv))) (h4 : PSs X rest (lS F s)) : PSs X (st1 :: st2 :: st3 :: rest) (lS F (sGr i j d1 d2 dv key s)) := PSs.mono (pss_cons h1 (pss_cons h2 (pss_cons h3 h4))) fun E σ H ⟨env, L, P, A, ⟨il, jl, ne, pp⟩, hn, hr, hb, hc⟩ => by
  refine ⟨env, L, _, A, pp, fun G v H1 p1 k1 o1 gr => ?_⟩
  obtain ⟨g, us, xs, rfl, rfl, hg, ng, nd, hd, un⟩ := gr
  have A1 := A.step k1 o1
  have B1 := A1.setF ((Dd.lst hg ng hd : Dd F.K (starN (F.N L) H) F.W H1 (.ref g) (.lst xs)).keep (fun _ _ _ z => z) fun _ z => .inl z) i
  show tAsg (lN F d2) (gName j) _ (σ.set i (some (.ref g))) H1
  refine ⟨_, L, _, B1, p1, fun fs t H2 p2 k2 o2 n2 nv => ?_⟩
  obtain ⟨x0, m, ys, e0, rfl, py, sx, pm, lm, pv⟩ := p2
  cases e0
  obtain ⟨zs, ht2, hz⟩ := nv
  have C0 : Abs F ((env.set i .no).set j .no) ((σ.set i (some (.ref g))).set j (some (.ref t))) L H := (A.setNo (.ref g) i).setNo (.ref t) j
  have k12 := k1.trans k2
  have il' : i < σ.length := by rw [← A.ls]; exact il
  have si : ((σ.set i (some (.ref g))).set j (some (.ref t)))[i]? = some (some (.ref g)) := by rw [List.getElem?_set_ne (Ne.symm ne)]; exact List.getElem?_set_self il'
  cases hd with
  | cons q0 hd =>
    cases hd with
    | cons q1 hd =>
      cases hd
      rename_i u0 u1
      obtain ⟨a, kvs, rfl, na, ha⟩ := un u1 (by simp)
      have rel : kvs.map (·.1) = m.map (·.1) ∧ DdAll F.K (starN (F.N L) H) F.W H1 (kvs.map (·.2)) (m.map (·.2)) := by
        cases q1 with
        | dic r1 r2 r3 r4 =>
          rcases r1 with r1 | ⟨_, r1⟩
          · rw [ha] at r1
            cases r1
            exact ⟨r3, r4⟩
          · rw [ha] at r1
            cases r1
      obtain ⟨a0, kv0, e0, na0, ha0⟩ := un u0 (by simp)
      subst e0
      have aa : a0 ≠ a := fun z => by
        rw [z] at nd
        simp at nd
      have nw : ∀ {b : Addr}, ¬ starN (F.N L) H b → ¬ F.W.own b := fun {b} n w => n (.inl (.inl (A.wn b w)))
      show sDPut (tOp (rIxL F.K) (tVar i) (tC (.int 1))) (tC (.str key)) (lC F dv) _ ((σ.set i (some (.ref g))).set j (some (.ref t))) H2
      refine ⟨_, L, _, C0.step k12 o2, pv, fun y w H3 p3 k3 o3 d3 => ?_⟩
      have k13 := k12.trans k3
      have C3 := C0.step k13 o3
      have hg3 : H3 g = some (.lst [.ref a0, .ref a]) := k3 g _ (nw ng) (k2 g _ (nw ng) hg)
      have ha3 : H3 a = some (.dK kvs) := k3 a _ (nw na) (k2 a _ (nw na) ha)
      have hat : ∀ {b : Addr} {o : HO}, ¬ starN (F.N L) H b → H1 b = some o → Nt o → H b = none := fun {b o} nb e nt => by
        cases e2 : H b with
        | none => rfl
        | some o' =>
          exfalso
          have hno : ¬ Nt o' := fun z => nb (.inr ⟨o', e2, z⟩)
          have := k1 b o' (nw nb) e2
          rw [e] at this
          cases this
          exact hno nt
      have han : H a = none := hat na ha trivial
      have htn : H t = none := free_of k1 o1 n2
      have nwt : ¬ F.W.own t := fun z => by
        obtain ⟨o, e⟩ := A1.alN (.inl (A1.wn t z))
        rw [n2] at e
        cases e
      have ht3 : H3 t = some (.lst zs) := k3 t _ nwt ht2
      have ta : t ≠ a := fun z => by
        rw [z, ha] at n2
        cases n2
      have ga : g ≠ a := fun z => by
        rw [z, ha] at hg
        cases hg
      refine ⟨.ref g, si, g, [.ref a0, .ref a], 1, .ref a, rfl, rfl, SqL.of hg3, rfl, a, _, rfl, .inl ⟨kvs, .inr key, ha3, rfl, by rw [kd_len rel.1]; exact lm, rfl⟩, ?_⟩
      obtain ⟨H4, e4⟩ : ∃ H4, H4 = upd H3 a (.dK (putK kvs (.inr key) w)) := ⟨_, rfl⟩
      rw [← e4]
      have k4 : KeepW F.W H H4 := fun b o q h => by
        rw [e4, upd_ne (ne_of_none h han)]
        exact k13 b o q h
      have o4 : F.W.ok H4 := by
        rw [e4]
        refine Wd.st o3 (n := noT_upd trivial) fun b u h q => ?_
        have nb : b ≠ a := fun z => by
          rcases q with q | q
          · exact nw na (z ▸ q)
          · rw [z, ha3] at h
            exact q (Option.some.inj h ▸ trivial)
        rw [upd_ne nb]
        exact h
      have off : ∀ {b : Addr} {o : HO}, b ≠ a → H3 b = some o → H4 b = some o := fun {b o} n h => by
        rw [e4, upd_ne n]
        exact h
      have hg4 := off ga hg3
      have ht4 := off ta ht3
      have tupN : ∀ {N' : Addr → Prop}, (∀ b, N' b → F.N (t :: L) b ∨ b = a) → ∀ {Hx : Hp}, (∀ b vs, Hx b = some (.tup vs) → ¬ F.N (t :: L) b) → (∃ kv, Hx a = some (.dK kv)) → ∀ b vs, Hx b = some (.tup vs) → ¬ N' b := fun {N'} sub {Hx} hx ⟨kv, hxa⟩ b vs h z => by
        rcases sub b z with z | z
        · exact hx b vs h z
        · rw [z, hxa] at h
          cases h
      have tupT : ∀ {Hx : Hp} {us : List V}, Abs F ((env.set i .no).set j .no) ((σ.set i (some (.ref g))).set j (some (.ref t))) L Hx → Hx t = some (.lst us) → ∀ b vs, Hx b = some (.tup vs) → ¬ F.N (t :: L) b := fun {Hx us} Ax hx b vs h z => by
        rcases z with z | z
        · exact Ax.noTp b vs h (.inl z)
        · rcases List.mem_cons.mp z with z | z
          · rw [z, hx] at h
            cases h
          · exact Ax.noTp b vs h (.inr z)
      have ha2 : H2 a = some (.dK kvs) := k2 a _ (nw na) ha
      have C2 := C0.step k12 o2
      have hz2 : DdAll F.K (fun b => F.N (t :: L) b ∨ b = a) F.W H2 zs ys := pure_ddL (tupN (fun _ z => z) (tupT C2 ht2) ⟨_, ha2⟩) py hz
      have hz4 : DdAll F.K (F.N (t :: L)) F.W H4 zs ys := hz2.keep (fun b o q h => off (fun z => q (.inr z)) (k3 b o (fun w => q (.inl (.inl (A.wn b w)))) h)) fun _ z => .inl z
      have nL : ∀ {b : Addr} {o : HO}, ¬ starN (F.N L) H b → H1 b = some o → ¬ F.N (t :: L) b := fun {b o} nb e z => by
        rcases z with z | z
        · exact nb (.inl (.inl z))
        · rcases List.mem_cons.mp z with z | z
          · rw [z, n2] at e
            cases e
          · exact nb (.inl (.inr z))
      have A3 := A.step k13 o3
      have dy3 : Dd F.K (fun b => F.N (t :: L) b ∨ b = a) F.W H3 w y := pure_dd (tupN (fun _ z => z) (tupT C3 ht3) ⟨_, ha3⟩) p3.1 d3
      have dy4 : Dd F.K (F.N (t :: L)) F.W H4 w y := dy3.keep (fun b o q h => off (fun z => q (.inr z)) h) fun _ z => .inl z
      have k23 := k2.trans k3
      have at3 : ∀ {us : List V} {xs : List DL.D}, D.pureL xs = true → DdAll F.K (starN (F.N L) H) F.W H1 us xs → DdAll F.K (fun b => F.N (t :: L) b ∨ b = a) F.W H3 us xs := fun {us xs} p h => pure_ddL (tupN (fun _ z => z) (tupT C3 ht3) ⟨_, ha3⟩) p (h.keep (fun b o q e => k23 b o (nw q) e) fun _ z => z)
      have to4 : ∀ {us : List V} {xs : List DL.D}, DdAll F.K (fun b => F.N (t :: L) b ∨ b = a) F.W H3 us xs → DdAll F.K (F.N (t :: L)) F.W H4 us xs := fun {us xs} h => h.keep (fun b o q e => off (fun z => q (.inr z)) e) fun _ z => .inl z
      obtain ⟨r1, r2⟩ := put_rel (k := (.inr key : Key)) rel.1 (at3 pm rel.2) dy3
      have d0 : Dd F.K (F.N (t :: L)) F.W H4 (.ref a0) x0 := by
        cases q0 with
        | dic g1 g2 g3 g4 =>
          rcases g1 with g1 | ⟨_, g1⟩
          · exact .dic (.inl (off aa (k23 a0 _ (nw na0) g1))) (nL na0 ha0) g3 (to4 (at3 sx g4))
          · rw [ha0] at g1
            cases g1
        | lst g1 _ _ => rw [ha0] at g1; cases g1
        | dct g1 _ _ _ => rcases g1 with g1 | ⟨_, g1⟩ <;> rw [ha0] at g1 <;> cases g1
        | _ => cases sx
      have d1 : Dd F.K (F.N (t :: L)) F.W H4 (.ref a) (.dic (putD m (.inr key) y)) := .dic (.inl (by rw [e4]; exact upd_same)) (nL na ha) r1 (to4 r2)
      have dG : Dd F.K (F.N (t :: L)) F.W H4 (.ref g) (.lst [x0, .dic (putD m (.inr key) y)]) := .lst hg4 (nL ng hg) (.cons d0 (.cons d1 .nil))
      have B := ((C0.hold (x := .lst ys) k4 o4 htn ⟨zs, ht4, hz4⟩).setW (C0.lone htn) (e := .ow ys) ⟨List.mem_cons_self, zs, ht4, hz4⟩ j rfl).setF dG i
      have eE : (((env.set i .no).set j .no).set j (.ow ys)).set i (.fz (.lst [x0, .dic (putD m (.inr key) y)])) = (env.set i (.fz (.lst [x0, .dic (putD m (.inr key) y)]))).set j (.ow ys) := by
        rw [List.set_set, List.set_comm _ _ ne, List.set_set, List.set_comm _ _ (Ne.symm ne)]
      have eS : (((σ.set i (some (.ref g))).set j (some (.ref t))).set j (some (.ref t))).set i (some (V.ref g)) = (σ.set i (some (.ref g))).set j (some (.ref t)) := by
        rw [List.set_set, List.set_comm _ _ ne, List.set_set, List.set_comm _ _ (Ne.symm ne)]
      rw [eE, eS] at B
      have pr := pres_cons A k4 htn
      exact ⟨_, _, P, B, p3.2, fun env2 σ2 L2 H2 p2 A2 pr2 => hn env2 σ2 L2 H2 p2 A2 (pr.trans pr2), hr, fun env2 σ2 L2 H2 p2 A2 pr2 => hb env2 σ2 L2 H2 p2 A2 (pr.trans pr2), fun env2 σ2 L2 H2 p2 A2 pr2 => hc env2 σ2 L2 H2 p2 A2 (pr.trans pr2)⟩
end
end DL
namespace DL
open PySem PySem.Spec PyProof.Rows L2 RK
section
variable {X : Cx} {F : Fx} {e1 k0 : Expr} {dk dv : TDE} {pos : Pos}
end
end DL
namespace DL
open PySem PySem.Spec PyProof.Rows L2 RK
theorem bIx_l {xs : List D} {j : Nat} {x : D} (h : xs[j]? = some x) : bIx (.lst xs) (.int (j : Nat)) = some x := by
  show (atI xs (j : Int)).or _ = some x
  rw [atI_nat h]
  rfl
theorem bIx_tp {xs : List D} {j : Nat} {x : D} (h : xs[j]? = some x) : bIx (.tup xs) (.int (j : Nat)) = some x := by
  show (atI xs (j : Int)).or _ = some x
  rw [atI_nat h]
  rfl
theorem bIx_s {z : Str} (hz : z.length ≤ sizeLine) {j : Nat} {c : Nat} (h : z.cps.toList[j]? = some c) : bIx (.str z) (.int (j : Nat)) = some (.str ⟨#[c]⟩) := by
  show (none : Option D).or ((if z.length ≤ sizeLine then (atI z.cps.toList (j : Int)).map (fun c => D.str ⟨#[c]⟩) else none).or _) = _
  rw [if_pos hz, atI_nat h]
  rfl
theorem allD_map (bs : List Bool) : allD [.lst (bs.map D.bl)] = some (.bl (bs.all id)) := by
  show (blsD (bs.map D.bl)).map _ = _
  rw [blsD_map]
  rfl
theorem allD_f {α : Type} (l : List α) (f : α → Bool) : allD [.lst (l.map fun a => D.bl (f a))] = some (.bl (l.all f)) := by
  have : (l.map fun a => D.bl (f a)) = (l.map f).map D.bl := by rw [List.map_map]; rfl
  rw [this, allD_map, List.all_map]
  rfl
theorem szM {n : Nat} (h : n ≤ 1000000) : n < sizeLine := Nat.lt_of_le_of_lt h (by rw [sizeLine_eq]; decide)
theorem comp_all {α : Type} {g : TDG} {tt : TDT} {te : TDE} {P : D → Prop} {env : De} (enc : α → D) (R : α → D → Prop) : ∀ (l : List α) (acc : List D), (∀ a ∈ l, ∀ (Q : D → Prop) (Z : Prop), (∀ y, R a y → Q y) → g (enc a) env fun env' => tt env' fun b => if b = true then te env' Q else Z) → acc.length + l.length ≤ 1000000 →
    (∀ ys, Paired R l ys → P (.lst (acc ++ ys))) → dComp g tt te P env (l.map enc) acc
  | [], acc, _, _, q => by
    have := q [] .nil
    rw [List.append_nil] at this
    exact this
  | a :: l, acc, h, hl, q => h a List.mem_cons_self _ _ fun y hy => by
      refine ⟨szM (by simp at hl; omega), comp_all enc R l (acc ++ [y]) (fun b hb => h b (List.mem_cons_of_mem _ hb)) (by simp at hl ⊢; omega) fun ys hys => ?_⟩
      rw [List.append_assoc]
      exact q (y :: ys) (.cons hy hys)
theorem comp_map {α : Type} {g : TDG} {tt : TDT} {te : TDE} {P : D → Prop} {env : De} (enc f : α → D) : ∀ (l : List α) (acc : List D), (∀ a ∈ l, ∀ (Q : D → Prop) (Z : Prop), Q (f a) → g (enc a) env fun env' => tt env' fun b => if b = true then te env' Q else Z) → acc.length + l.length ≤ 1000000 →
    P (.lst (acc ++ l.map f)) → dComp g tt te P env (l.map enc) acc
  | [], acc, _, _, q => by
    rw [List.map_nil, List.append_nil] at q
    exact q
  | a :: l, acc, h, hl, q => h a List.mem_cons_self _ _ (by
      refine ⟨szM (by simp at hl; omega), comp_map enc f l (acc ++ [f a]) (fun b hb => h b (List.mem_cons_of_mem _ hb)) (by simp at hl ⊢; omega) ?_⟩
      rw [List.append_assoc]
      exact q)
theorem comp_filter {α : Type} {g : TDG} {tt : TDT} {te : TDE} {P : D → Prop} {env : De} (enc f : α → D) (p : α → Bool) : ∀ (l : List α) (acc : List D), (∀ a ∈ l, ∀ (Q : D → Prop) (Z : Prop), (p a = true → Q (f a)) → (p a = false → Z) → g (enc a) env fun env' => tt env' fun b => if b = true then te env' Q else Z) → acc.length + l.length ≤ 1000000 →
    P (.lst (acc ++ (l.filter p).map f)) → dComp g tt te P env (l.map enc) acc
  | [], acc, _, _, q => by
    rw [List.filter_nil, List.map_nil, List.append_nil] at q
    exact q
  | a :: l, acc, h, hl, q => by
    refine h a List.mem_cons_self _ _ (fun hp => ⟨szM (by simp at hl; omega), comp_filter enc f p l (acc ++ [f a]) (fun b hb => h b (List.mem_cons_of_mem _ hb)) (by simp at hl ⊢; omega) ?_⟩) (fun hp => comp_filter enc f p l acc (fun b hb => h b (List.mem_cons_of_mem _ hb)) (by simp at hl ⊢; omega) ?_)
    · rw [List.filter_cons_of_pos hp, List.map_cons] at q
      rw [List.append_assoc]
      exact q
    · rw [List.filter_cons_of_neg (by rw [hp]; exact Bool.false_ne_true)] at q
      exact q
theorem loop_inv {α : Type} {g : TDG} {body : TDS} {P : DEnds} (enc : α → D) (l : List α) (I : List α → De → Prop)
    (step : ∀ (pre : List α) (a : α) (post : List α) (env : De), l = pre ++ a :: post → I pre env → ∀ k : De → Prop, (∀ env', I (pre ++ [a]) env' → k env') → g (enc a) env fun env' => body { nx := k, rt := P.rt, bk := P.nx, ct := k } env') (done : ∀ env, I l env → P.nx env) :
    ∀ (post pre : List α) (env : De), l = pre ++ post → I pre env → sLoop g body P (post.map enc) env
  | [], pre, env, e, h => by
    rw [List.append_nil] at e
    exact done env (e ▸ h)
  | a :: post, pre, env, e, h => step pre a post env e h _ fun env' h' => loop_inv enc l I step done post (pre ++ [a]) env' (by rw [List.append_assoc]; exact e) h'
theorem loop_all {α : Type} {g : TDG} {body : TDS} {P : DEnds} {env : De} (enc : α → D) (l : List α) (I : List α → De → Prop) (h0 : I [] env)
    (step : ∀ (pre : List α) (a : α) (post : List α) (env : De), l = pre ++ a :: post → I pre env → ∀ k : De → Prop, (∀ env', I (pre ++ [a]) env' → k env') → g (enc a) env fun env' => body { nx := k, rt := P.rt, bk := P.nx, ct := k } env') (done : ∀ env, I l env → P.nx env) :
    sLoop g body P (l.map enc) env := loop_inv enc l I step done l [] env rfl h0
theorem loop_rng {g : TDG} {body : TDS} {P : DEnds} {env : De} {lo : Int} {n : Nat} (I : Nat → De → Prop) (h0 : I 0 env)
    (step : ∀ (i : Nat) (env : De), i < n → I i env → ∀ k : De → Prop, (∀ env', I (i + 1) env' → k env') → g (.int (lo + (i : Nat))) env fun env' => body { nx := k, rt := P.rt, bk := P.nx, ct := k } env') (done : ∀ env, I n env → P.nx env) :
    sLoop g body P (rngD lo n) env := by
  unfold rngD
  refine loop_all (fun k : Nat => D.int (lo + (k : Nat))) (List.range n) (fun pre env => I pre.length env) h0 (fun pre a post env e h k hk => ?_) (fun env h => done env (by rw [List.length_range] at h; exact h))
  have hl : pre.length < n := by
    have := congrArg List.length e
    simp at this
    omega
  have ha : a = pre.length := by
    have h1 : (List.range n)[pre.length]? = some a := by rw [e]; simp
    rw [List.getElem?_range hl] at h1
    exact (Option.some.inj h1).symm
  rw [ha]
  exact step pre.length env hl h k fun env' h' => hk env' (by rw [List.length_append]; exact h')
def sp_of : DSp := fun ds P => (∃ xs, (ds = [.bag, .lst xs] ∨ ds = [.bag, .tup xs]) ∧ 1 ≤ xs.length ∧ xs.length ≤ 1000000 ∧ ∀ x ∈ xs, P x) ∨ (∃ z : Str, ds = [.bag, .str z] ∧ 1 ≤ z.length ∧ z.length ≤ 1000000 ∧ ∀ c ∈ z.cps.toList, P (.str ⟨#[c]⟩))
def d_of : TDS := (sRet (dO2 bIx (dV 1) (dCall sp_pull (aCons (dV 0) (aCons (dCa lenD (aCons (dV 1) aNil)) aNil)))))
theorem rd_of {ds : List D} {P : D → Prop} (h : sp_of ds P) : d_of (fin false P) (st 2 ds) := by
  rcases h with ⟨xs, h | h, l1, l2, q⟩ | ⟨z, rfl, l1, l2, q⟩
  · subst h
    simp only [d_of, dV, dO2, ob_some, aNil, aCons, dCa, dCall, sRet, fin, st, List.map_cons, List.map_nil, List.length_cons, List.length_nil, List.replicate_zero, List.append_nil, List.getElem?_cons_zero, List.getElem?_cons_succ, Nat.reduceSub, Nat.reduceAdd, lenD]
    refine ⟨_, rfl, by omega, by omega, fun r r0 r1 => ?_⟩
    obtain ⟨j, rfl⟩ : ∃ j : Nat, r = (j : Int) := ⟨r.toNat, by omega⟩
    show ob (bIx (.lst xs) (.int (j : Nat))) P
    rw [bIx_l (List.getElem?_eq_getElem (by omega))]
    exact q _ (List.getElem_mem _)
  · subst h
    simp only [d_of, dV, dO2, ob_some, aNil, aCons, dCa, dCall, sRet, fin, st, List.map_cons, List.map_nil, List.length_cons, List.length_nil, List.replicate_zero, List.append_nil, List.getElem?_cons_zero, List.getElem?_cons_succ, Nat.reduceSub, Nat.reduceAdd, lenD]
    refine ⟨_, rfl, by omega, by omega, fun r r0 r1 => ?_⟩
    obtain ⟨j, rfl⟩ : ∃ j : Nat, r = (j : Int) := ⟨r.toNat, by omega⟩
    show ob (bIx (.tup xs) (.int (j : Nat))) P
    rw [bIx_tp (List.getElem?_eq_getElem (by omega))]
    exact q _ (List.getElem_mem _)
  · have hz : z.length ≤ sizeLine := Nat.le_of_lt (szM l2)
    simp only [d_of, dV, dO2, ob_some, aNil, aCons, dCa, dCall, sRet, fin, st, List.map_cons, List.map_nil, List.length_cons, List.length_nil, List.replicate_zero, List.append_nil, List.getElem?_cons_zero, List.getElem?_cons_succ, Nat.reduceSub, Nat.reduceAdd, lenD, if_pos hz]
    refine ⟨_, rfl, by omega, by omega, fun r r0 r1 => ?_⟩
    obtain ⟨j, rfl⟩ : ∃ j : Nat, r = (j : Int) := ⟨r.toNat, by omega⟩
    have hj : j < z.cps.toList.length := by rw [← str_len]; omega
    show ob (bIx (.str z) (.int (j : Nat))) P
    rw [bIx_s hz (List.getElem?_eq_getElem hj)]
    exact q _ (List.getElem_mem _)
def sp_mixed : DSp := fun ds P => ∃ xs, (ds = [.bag, .lst xs] ∨ ds = [.bag, .tup xs]) ∧ xs.length ≤ 100000 ∧ ∀ ys : List D, ys.Perm xs → P (.lst ys)
def d_mixed : TDS := (sSeq (sSetO 2 (dLst aNil))
  (sSeq (sFor (iSeq (dV 1)) (gNm 3) (sIns 2 (dCall sp_pull (aCons (dV 0) (aCons (dO2 bAdd (dCa lenD (aCons (dB 2) aNil)) (dC (.int 1))) aNil))) (dV 3)))
  (sRetO 2)))
theorem rd_mixed {ds : List D} {P : D → Prop} (h : sp_mixed ds P) : d_mixed (fin true P) (st 4 ds) := by
  obtain ⟨xs, h, l2, q⟩ := h
  have loop : ∀ y : D, sLoop (gNm 3) (sIns 2 (dCall sp_pull (aCons (dV 0) (aCons (dO2 bAdd (dCa lenD (aCons (dB 2) aNil)) (dC (.int 1))) aNil))) (dV 3)) { fin true P with nx := sRetO 2 (fin true P) } xs [.fz .bag, .fz y, .ow [], .no] := fun y => by
    have := loop_all (g := gNm 3) (body := sIns 2 (dCall sp_pull (aCons (dV 0) (aCons (dO2 bAdd (dCa lenD (aCons (dB 2) aNil)) (dC (.int 1))) aNil))) (dV 3)) (P := { fin true P with nx := sRetO 2 (fin true P) }) (env := [.fz .bag, .fz y, .ow [], .no]) id xs (fun pre env => ∃ ys e, env = [.fz .bag, .fz y, .ow ys, e] ∧ ys.Perm pre) ⟨[], .no, rfl, .nil⟩ (fun pre a post env e h k hk => ?_) (fun env h => ?_)
    · rw [List.map_id] at this
      exact this
    · obtain ⟨ys, e2, rfl, hp⟩ := h
      have hl : ys.length < 100001 := by
        have h1 := hp.length_eq
        have h2 := congrArg List.length e
        simp at h2
        omega
      simp only [dC, dV, dB, dO2, ob_some, aNil, aCons, dCa, dCall, gNm, sIns, owAt, List.getElem?_cons_zero, List.getElem?_cons_succ, List.set_cons_zero, List.set_cons_succ, Option.bind_some, lenD, bAdd, iI0, Option.some_or]
      refine ⟨_, rfl, by omega, by omega, fun r r0 r1 => ⟨szM (by omega), r0, by omega, hk _ ⟨_, _, rfl, ?_⟩⟩⟩
      have e3 : ys = ys.take r.toNat ++ ys.drop r.toNat := (List.take_append_drop _ _).symm
      rw [List.append_assoc]
      refine (List.perm_middle).trans ?_
      show (a :: (ys.take r.toNat ++ ys.drop r.toNat)).Perm (pre ++ [a])
      rw [← e3]
      exact (List.Perm.cons a hp).trans (List.perm_append_singleton a pre).symm
    · obtain ⟨ys, e2, rfl, hp⟩ := h
      simp only [ob_some, sRetO, owD, fin, List.getElem?_cons_zero, List.getElem?_cons_succ, Option.bind_some]
      exact q ys hp
  rcases h with h | h
  · subst h
    simp only [d_mixed, dV, ob_some, aNil, dLst, sSeq, sSetO, enOf, fin, st, iSeq, lstD, tupD, sFor, List.map_cons, List.map_nil, List.length_cons, List.length_nil, List.replicate_succ, List.replicate_zero, List.cons_append, List.nil_append, List.getElem?_cons_zero, List.getElem?_cons_succ, List.set_cons_zero, List.set_cons_succ, Nat.reduceSub, Nat.reduceAdd]
    exact ⟨Nat.zero_le _, .inl (loop _)⟩
  · subst h
    simp only [d_mixed, dV, ob_some, aNil, dLst, sSeq, sSetO, enOf, fin, st, iSeq, lstD, tupD, sFor, List.map_cons, List.map_nil, List.length_cons, List.length_nil, List.replicate_succ, List.replicate_zero, List.cons_append, List.nil_append, List.getElem?_cons_zero, List.getElem?_cons_succ, List.set_cons_zero, List.set_cons_succ, Nat.reduceSub, Nat.reduceAdd]
    exact ⟨Nat.zero_le _, .inr (.inl (loop _))⟩
end DL
namespace DL
open PySem PySem.Spec PyProof.Rows L2 RK
def rectD (p : R) : D := .tup [.int p.l, .int p.t, .int p.r, .int p.b]
def sp_rectangle : DSp := fun ds P => ∃ c : Int, ds = [.bag, .int c] ∧ 1 ≤ c ∧ c ≤ 100000000 ∧ ∀ x y x2 y2 : Int, -4 ≤ x → x ≤ 4 → -4 ≤ y → y ≤ 4 → x < x2 → x2 ≤ x + 4 → y < y2 → y2 ≤ y + 4 → P (rectD ⟨c * x, c * y, c * x2, c * y2⟩)
def d_rectangle : TDS := (sSeq (sPar 2 3 false false (dO2 bSub (dCall sp_pull (aCons (dV 0) (aCons (dC (.int 9)) aNil))) (dC (.int 4))) (dO2 bSub (dCall sp_pull (aCons (dV 0) (aCons (dC (.int 9)) aNil))) (dC (.int 4))))
  (sSeq (sPar 4 5 false false (dO2 bAdd (dO2 bAdd (dV 2) (dC (.int 1))) (dCall sp_pull (aCons (dV 0) (aCons (dC (.int 4)) aNil)))) (dO2 bAdd (dO2 bAdd (dV 3) (dC (.int 1))) (dCall sp_pull (aCons (dV 0) (aCons (dC (.int 4)) aNil)))))
  (sRet (dTup (aCons (dO2 bMul (dV 1) (dV 2)) (aCons (dO2 bMul (dV 1) (dV 3)) (aCons (dO2 bMul (dV 1) (dV 4)) (aCons (dO2 bMul (dV 1) (dV 5)) aNil))))))))
theorem rd_rectangle {ds : List D} {P : D → Prop} (h : sp_rectangle ds P) : d_rectangle (fin true P) (st 6 ds) := by
  obtain ⟨c, rfl, c1, c2, q⟩ := h
  simp only [d_rectangle, dC, dV, dO2, ob_some, aNil, aCons, dTup, dCall, sSeq, sRet, sPar, kn, fin, st, List.map_cons, List.map_nil, List.length_cons, List.length_nil, List.replicate_succ, List.replicate_zero, List.cons_append, List.nil_append, List.getElem?_cons_zero, List.getElem?_cons_succ, List.set_cons_zero, List.set_cons_succ, Nat.reduceSub, Nat.reduceAdd, bSub, bAdd, iI0]
  refine ⟨_, rfl, by decide, by decide, fun r r0 r1 => ⟨_, rfl, by decide, by decide, fun s s0 s1 => ?_⟩⟩
  refine ⟨_, rfl, by decide, by decide, fun u u0 u1 => ⟨_, rfl, by decide, by decide, fun v v0 v1 => ?_⟩⟩
  have e : ∀ z : Int, bMul (.int c) (.int z) = some (.int (c * z)) := fun z => by
    show (if decide _ = true then some (D.int (c * z)) else none).or _ = _
    rw [if_pos (decide_eq_true (.inl ⟨by omega, by omega⟩))]
    rfl
  simp only [ob_some, e, Option.some_or]
  exact ⟨by decide, q (r - 4) (s - 4) (r - 4 + 1 + u) (s - 4 + 1 + v) (by omega) (by omega) (by omega) (by omega) (by omega) (by omega) (by omega) (by omega)⟩
theorem abc_get {j : Nat} (h : j < 26) : abc.cps.toList[j]? = some (97 + j) := by
  rw [abc_codes, List.getElem?_range' h, Nat.one_mul]
def sp_names : DSp := fun ds P => ∃ n : Int, ds = [.bag, .int n] ∧ 0 ≤ n ∧ n ≤ 26 ∧ ∀ zs : List Str, zs.length = n.toNat → (∀ z ∈ zs, NameOk z) → zs.Nodup → P (.lst (zs.map D.str))
def d_names : TDS := (sSeq (sAsg (dTup (aCons (dC (.str "abcdefghijklmnopqrstuvwxyz")) (aCons (dC (.str "")) aNil))) (gTp 2 (gsCons (gNm 2) (gsCons (gNm 3) gsNil))))
  (sSeq (sFor (iRng (aCons (dCall sp_pull (aCons (dV 0) (aCons (dC (.int 6)) aNil))) aNil)) (gNm 4) (sSet 3 (dO2 bAdd (dV 3) (dCall sp_of (aCons (dV 0) (aCons (dV 2) aNil))))))
  (sSeq (sIf (dT (dO2 (bEqN false) (dCall sp_pull (aCons (dV 0) (aCons (dC (.int 4)) aNil))) (dC (.int 0)))) (sRet (dLc (iRng (aCons (dV 1) aNil)) (gNm 4) tYesD (dO2 bMul (dO2 bIx (dV 2) (dO2 bMod (dO2 bAdd (dCa lenD (aCons (dV 3) aNil)) (dO2 bMul (dC (.int 7)) (dV 4))) (dC (.int 26)))) (dO2 bAdd (dC (.int 1)) (dO2 bMod (dO2 bAdd (dCa lenD (aCons (dV 3) aNil)) (dO2 bMul (dC (.int 5)) (dV 4))) (dC (.int 4))))) [4])) sNil)
  (sSeq (sAsg (dTup (aCons (dCall sp_pull (aCons (dV 0) (aCons (dO2 bAdd (dCa lenD (aCons (dV 3) aNil)) (dC (.int 1))) aNil))) (aCons (dCall sp_pull (aCons (dV 0) (aCons (dC (.int 26)) aNil))) (aCons (dCall sp_of (aCons (dV 0) (aCons (dLst (aCons (dC (.int 1)) (aCons (dC (.int 3)) (aCons (dC (.int 5)) (aCons (dC (.int 7)) (aCons (dC (.int 9)) aNil)))))) aNil))) aNil)))) (gTp 3 (gsCons (gNm 5) (gsCons (gNm 6) (gsCons (gNm 7) gsNil)))))
  (sRet (dLc (iRng (aCons (dV 1) aNil)) (gNm 4) tYesD (dO2 bAdd (dO2 bAdd (dCut cutA (dV 3) oNone (oSome (dV 5))) (dO2 bIx (dV 2) (dO2 bMod (dO2 bAdd (dV 6) (dO2 bMul (dV 7) (dV 4))) (dC (.int 26))))) (dCut cutA (dV 3) (oSome (dV 5)) oNone)) [4]))))))
theorem nodup_map_range {β : Type} {n : Nat} {f : Nat → β} (h : ∀ i j, i < n → j < n → f i = f j → i = j) : ((List.range n).map f).Nodup := by
  rw [List.nodup_iff_pairwise_ne, List.pairwise_map]
  refine List.Pairwise.imp_of_mem (fun {a b} ha hb hab e => ?_) (List.nodup_iff_pairwise_ne.mp List.nodup_range)
  exact hab (h a b (List.mem_range.mp ha) (List.mem_range.mp hb) e)
theorem bMul_i {i j : Int} (h : -(2 ^ 64) < i) (h' : i < 2 ^ 64) : bMul (.int i) (.int j) = some (.int (i * j)) := by
  show (if decide _ = true then some (D.int (i * j)) else none).or _ = _
  rw [if_pos (decide_eq_true (.inl ⟨h, h'⟩))]
  rfl
theorem bMod_i {i j : Int} (h : 0 < j) : bMod (.int i) (.int j) = some (.int (i % j)) := by
  show (if decide _ = true then some (D.int (i % j)) else none) = _
  rw [if_pos (decide_eq_true h)]
theorem bAdd_i (i j : Int) : bAdd (.int i) (.int j) = some (.int (i + j)) := rfl
theorem bAdd_s {x y : Str} (h : x.length + y.length ≤ sizeLine) : bAdd (.str x) (.str y) = some (.str (x ++ y)) := by
  show (none : Option D).or ((if x.length + y.length ≤ sizeLine then some (D.str (x ++ y)) else none).or _) = _
  rw [if_pos h]
  rfl
theorem bEq_i (i j : Int) : bEqN false (.int i) (.int j) = some (.bl (decide (i = j))) := by
  show (some (D.bl (false ^^ decide (i = j)))).or _ = _
  rw [Bool.false_xor]
  rfl
theorem bIx_abc {j : Nat} (h : j < 26) : bIx (.str abc) (.int (j : Nat)) = some (.str ⟨#[97 + j]⟩) := bIx_s (by rw [abc_len]; exact Nat.le_of_lt (szM (by decide))) (abc_get h)
theorem rd_names {ds : List D} {P : D → Prop} (h : sp_names ds P) : d_names (fin true P) (st 8 ds) := by
  obtain ⟨n, rfl, n0, n1, q⟩ := h
  simp only [d_names, dC, dV, aNil, aCons, dTup, dCall, sSeq, sAsg, gNm, gsNil, gsCons, gTp, fin, st, iRng, sFor, List.map_cons, List.map_nil, List.length_cons, List.length_nil, List.replicate_succ, List.replicate_zero, List.cons_append, List.nil_append, List.getElem?_cons_zero, List.set_cons_zero, List.set_cons_succ, Nat.reduceSub, Nat.reduceAdd]
  refine ⟨by decide, trivial, trivial, ⟨_, rfl, by decide, by decide, fun r r0 r1 => ⟨by omega, by omega, ?_⟩⟩⟩
  refine loop_rng (fun i env => ∃ e4 bs, env = [.fz .bag, .fz (.int n), .fz (.str abc), .fz (.str bs), e4, .no, .no, .no] ∧ bs.length = i ∧ ∀ c ∈ bs.cps.toList, Low c) ⟨.no, "", rfl, by decide +kernel, by intro c hc; exact absurd hc (by decide +kernel +revert)⟩ (fun i env hi h k hk => ?_) (fun env h => ?_)
  · obtain ⟨e4, bs, rfl, hl, hc⟩ := h
    simp only [dV, dO2, aNil, aCons, dCall, sSet, gNm, List.getElem?_cons_zero, List.getElem?_cons_succ, List.set_cons_zero, List.set_cons_succ]
    refine .inr ⟨abc, rfl, by rw [abc_len]; decide, by rw [abc_len]; decide, fun c hm => ?_⟩
    dsimp only
    rw [bAdd_s (by rw [one_len, hl]; exact Nat.le_of_lt (szM (by omega)))]
    refine hk _ ⟨_, _, rfl, ?_, fun c' hc' => ?_⟩
    · rw [str_len, app_codes, List.length_append, ← str_len, hl]
      rfl
    · rw [app_codes] at hc'
      rcases List.mem_append.mp hc' with h | h
      · exact hc c' h
      · have h := List.mem_singleton.mp h
        subst h
        exact abc_mem.mp hm
  · obtain ⟨e4, bs, rfl, hl, hc⟩ := h
    have hb5 : bs.length ≤ 5 := by omega
    have hbs : bs.length ≤ sizeLine := Nat.le_of_lt (szM (by omega))
    simp only [dC, dV, dO2, ob_some, dT, aNil, aCons, dTup, dLst, dCa, dCall, sNil, sSeq, sIf, sRet, sAsg, gNm, gsNil, gsCons, gTp, iRng, dLc, wipeE, List.length_cons, List.length_nil, List.getElem?_cons_zero, List.getElem?_cons_succ, List.set_cons_zero, List.set_cons_succ, Nat.reduceAdd, lenD, if_pos hbs, bAdd_i]
    refine ⟨_, rfl, by decide, by decide, fun r2 _ _ => ite2 (fun c4 => ?_) (fun c4 => ?_)⟩
    · -- one letter, again and again
      refine ⟨by omega, by omega, ?_⟩
      have hm : ∀ k : Nat, ((bs.length : Int) + 7 * (0 + (k : Nat))) % 26 = ((bs.length + 7 * k) % 26 : Nat) := fun k => by omega
      have hm2 : ∀ k : Nat, 1 + ((bs.length : Int) + 5 * (0 + (k : Nat))) % 4 = ((1 + (bs.length + 5 * k) % 4 : Nat) : Int) := fun k => by omega
      refine comp_map (fun k : Nat => D.int (0 + (k : Nat))) (fun k => D.str (PySem.Txt.mul ⟨#[97 + (bs.length + 7 * k) % 26]⟩ ((1 + (bs.length + 5 * k) % 4 : Nat) : Int))) (List.range n.toNat) [] (fun k hk Q Z hQ => ?_) (by simp; omega) ?_
      · simp only [dC, dV, dO2, ob_some, aNil, aCons, dCa, gNm, tYesD, List.getElem?_cons_zero, List.getElem?_cons_succ, List.set_cons_zero, List.set_cons_succ, lenD, if_pos hbs, bAdd_i, bMod_i (show (0 : Int) < 26 by decide), bMod_i (show (0 : Int) < 4 by decide), bMul_i (show (-(2 ^ 64) : Int) < 7 by decide) (by decide), bMul_i (show (-(2 ^ 64) : Int) < 5 by decide) (by decide), hm, hm2, bIx_abc (Nat.mod_lt _ (by decide)), if_true]
        have e : bMul (.str ⟨#[97 + (bs.length + 7 * k) % 26]⟩) (.int ((1 + (bs.length + 5 * k) % 4 : Nat) : Int)) = some (.str (PySem.Txt.mul ⟨#[97 + (bs.length + 7 * k) % 26]⟩ ((1 + (bs.length + 5 * k) % 4 : Nat) : Int))) := by
          show (none : Option D).or ((none : Option D).or (if 1 ≤ ((1 + (bs.length + 5 * k) % 4 : Nat) : Int) ∧ ((1 + (bs.length + 5 * k) % 4 : Nat) : Int) ≤ 1000 then some _ else none)) = _
          rw [if_pos ⟨by omega, by omega⟩]
          rfl
        rw [e]
        exact hQ
      · rw [List.nil_append, show (fun k => D.str (PySem.Txt.mul ⟨#[97 + (bs.length + 7 * k) % 26]⟩ ((1 + (bs.length + 5 * k) % 4 : Nat) : Int))) = D.str ∘ fun k => PySem.Txt.mul ⟨#[97 + (bs.length + 7 * k) % 26]⟩ ((1 + (bs.length + 5 * k) % 4 : Nat) : Int) from rfl, ← List.map_map]
        refine q _ (by simp) (fun z hz => ?_) (nodup_map_range fun i j hi hj e => ?_)
        · obtain ⟨k, _, rfl⟩ := List.mem_map.mp hz
          obtain ⟨m, h1, h2⟩ := mul_codes (97 + (bs.length + 7 * k) % 26) (1 + (bs.length + 5 * k) % 4) (by omega)
          have hl2 : (PySem.Txt.mul ⟨#[97 + (bs.length + 7 * k) % 26]⟩ ((1 + (bs.length + 5 * k) % 4 : Nat) : Int)).length = m := by rw [str_len, h1, List.length_replicate]
          refine ⟨by omega, by omega, fun c hc => ?_⟩
          rw [h1] at hc
          have := (List.mem_replicate.mp hc).2
          unfold Low
          omega
        · obtain ⟨m, h1, h2⟩ := mul_codes (97 + (bs.length + 7 * i) % 26) (1 + (bs.length + 5 * i) % 4) (by omega)
          obtain ⟨m2, h3, h4⟩ := mul_codes (97 + (bs.length + 7 * j) % 26) (1 + (bs.length + 5 * j) % 4) (by omega)
          have e2 : List.replicate m (97 + (bs.length + 7 * i) % 26) = List.replicate m2 (97 + (bs.length + 7 * j) % 26) := by rw [← h1, ← h3, e]
          have e3 : (97 + (bs.length + 7 * i) % 26) ∈ List.replicate m2 (97 + (bs.length + 7 * j) % 26) := by rw [← e2]; exact List.mem_replicate.mpr ⟨by omega, rfl⟩
          have := (List.mem_replicate.mp e3).2
          omega
    · refine ⟨_, rfl, by omega, by omega, fun sp s0 s1 => ⟨_, rfl, by decide, by decide, fun fi f0 f1 => ⟨by decide, .inl ⟨_, .inl rfl, by decide, by decide, fun x hx => ?_⟩⟩⟩⟩
      obtain ⟨w, rfl, hw⟩ : ∃ w : Nat, x = .int (w : Int) ∧ (w = 1 ∨ w = 3 ∨ w = 5 ∨ w = 7 ∨ w = 9) := by
        simp only [List.mem_cons, List.not_mem_nil, or_false] at hx
        rcases hx with rfl | rfl | rfl | rfl | rfl
        · exact ⟨1, rfl, by omega⟩
        · exact ⟨3, rfl, by omega⟩
        · exact ⟨5, rfl, by omega⟩
        · exact ⟨7, rfl, by omega⟩
        · exact ⟨9, rfl, by omega⟩
      obtain ⟨sp, rfl⟩ : ∃ j : Nat, sp = (j : Int) := ⟨sp.toNat, by omega⟩
      obtain ⟨fi, rfl⟩ : ∃ j : Nat, fi = (j : Int) := ⟨fi.toNat, by omega⟩
      refine ⟨by decide, trivial, trivial, by omega, by omega, ?_⟩
      have hm : ∀ k : Nat, ((fi : Int) + (w : Int) * (0 + (k : Nat))) % 26 = ((fi + w * k) % 26 : Nat) := fun k => by
        rw [Int.zero_add]
        norm_cast
      have c1 : cutA (.str bs) none (some (sp : Int)) = some (.str (cutS bs none (some (sp : Int)))) := if_pos hbs
      have c2 : cutA (.str bs) (some (sp : Int)) none = some (.str (cutS bs (some (sp : Int)) none)) := if_pos hbs
      have k1 : (cutS bs none (some (sp : Int))).cps.toList = bs.cps.toList.take sp := by
        rw [cut_codes, HT.sIx_none, HT.sIx_nat, List.drop_zero, Nat.sub_zero]
        exact congrArg (fun m => List.take m bs.cps.toList) (by omega)
      have k2 : (cutS bs (some (sp : Int)) none).cps.toList = bs.cps.toList.drop sp := by
        rw [cut_codes, HT.sIx_none, HT.sIx_nat]
        have : min sp bs.length = sp := by omega
        rw [this]
        exact List.take_of_length_le (by rw [List.length_drop, ← str_len]; exact Nat.le_refl _)
      have l1 : (cutS bs none (some (sp : Int))).length = sp := by rw [str_len, k1, List.length_take, ← str_len]; omega
      have l2 : (cutS bs (some (sp : Int)) none).length = bs.length - sp := by rw [str_len, k2, List.length_drop, ← str_len]
      have codes : ∀ k : Nat, (cutS bs none (some (sp : Int)) ++ ⟨#[97 + (fi + w * k) % 26]⟩ ++ cutS bs (some (sp : Int)) none).cps.toList = bs.cps.toList.take sp ++ [97 + (fi + w * k) % 26] ++ bs.cps.toList.drop sp := fun k => by
        rw [app_codes, app_codes, k1, k2]
      refine comp_map (fun k : Nat => D.int (0 + (k : Nat))) (fun k => D.str (cutS bs none (some (sp : Int)) ++ ⟨#[97 + (fi + w * k) % 26]⟩ ++ cutS bs (some (sp : Int)) none)) (List.range n.toNat) [] (fun k hk Q Z hQ => ?_) (by simp; omega) ?_
      · simp only [dC, dV, dO2, ob_some, dCut, oNone, oSome, gNm, tYesD, List.getElem?_cons_zero, List.getElem?_cons_succ, List.set_cons_zero, List.set_cons_succ, c1, c2, bMul_i (show (-(2 ^ 64) : Int) < (w : Int) by omega) (show (w : Int) < 2 ^ 64 by omega), bAdd_i, bMod_i (show (0 : Int) < 26 by decide), hm, bIx_abc (Nat.mod_lt _ (by decide)), if_true]
        rw [bAdd_s (by rw [one_len, l1]; exact Nat.le_of_lt (szM (by omega))), ob_some, bAdd_s (by rw [str_len, app_codes, List.length_append, ← str_len, l1, l2]; exact Nat.le_of_lt (szM (by show sp + 1 + (bs.length - sp) ≤ _; omega)))]
        exact hQ
      · rw [List.nil_append, show (fun k => D.str (cutS bs none (some (sp : Int)) ++ ⟨#[97 + (fi + w * k) % 26]⟩ ++ cutS bs (some (sp : Int)) none)) = D.str ∘ fun k => cutS bs none (some (sp : Int)) ++ ⟨#[97 + (fi + w * k) % 26]⟩ ++ cutS bs (some (sp : Int)) none from rfl, ← List.map_map]
        refine q _ (by simp) (fun z hz => ?_) (nodup_map_range fun i j hi hj e => ?_)
        · obtain ⟨k, _, rfl⟩ := List.mem_map.mp hz
          have hl2 : (cutS bs none (some (sp : Int)) ++ ⟨#[97 + (fi + w * k) % 26]⟩ ++ cutS bs (some (sp : Int)) none).length = bs.length + 1 := by
            rw [str_len, codes, List.length_append, List.length_append, List.length_take, List.length_drop, ← str_len]
            simp
            omega
          refine ⟨by omega, by omega, fun c hc' => ?_⟩
          rw [codes, List.append_assoc] at hc'
          rcases List.mem_append.mp hc' with h | h
          · exact hc c (List.mem_of_mem_take h)
          · rcases List.mem_append.mp h with h | h
            · have := List.mem_singleton.mp h
              unfold Low
              omega
            · exact hc c (List.mem_of_mem_drop h)
        · have e2 : bs.cps.toList.take sp ++ [97 + (fi + w * i) % 26] ++ bs.cps.toList.drop sp = bs.cps.toList.take sp ++ [97 + (fi + w * j) % 26] ++ bs.cps.toList.drop sp := by rw [← codes, ← codes, e]
          rw [List.append_assoc, List.append_assoc] at e2
          have e3 := (List.cons.inj (List.append_cancel_left e2)).1
          rcases hw with rfl | rfl | rfl | rfl | rfl <;> omega
end DL
namespace DL
open PySem PySem.Spec PyProof.Rows L2 RK
mutual
def toP : D → PyData
  | .non => .none
  | .bl b => .bool b
  | .int i => .int i
  | .str x => .str x
  | .lst xs => .list (toPA xs)
  | .tup xs => .tuple (toPA xs)
  | _ => .none
def toPA : List D → List PyData
  | [] => []
  | x :: xs => toP x :: toPA xs
end
def sh : Nat → D → Bool
  | _, .non => true
  | _, .int _ => true
  | _, .str x => PyData.strOk x
  | n + 1, .lst xs => xs.all (sh n)
  | n + 1, .tup xs => xs.all (sh n)
  | _, _ => false
theorem sh_py : ∀ (n : Nat) (x : D), sh n x = true → toPy x = some (toP x) ∧ (toP x).canLay0 = true ∧ (toP x).depth ≤ n := by
  have lists : ∀ (n : Nat), (∀ x : D, sh n x = true → toPy x = some (toP x) ∧ (toP x).canLay0 = true ∧ (toP x).depth ≤ n) → ∀ xs : List D, xs.all (sh n) = true → toPyA xs = some (toPA xs) ∧ PyData.canLayAll0 (toPA xs) = true ∧ PyData.depthAll (toPA xs) ≤ n := by
    intro n ih xs
    induction xs with
    | nil => intro _; exact ⟨rfl, rfl, Nat.zero_le _⟩
    | cons x xs ihx =>
      intro h
      rw [List.all_cons, Bool.and_eq_true] at h
      obtain ⟨h1, h2, h3⟩ := ih x h.1
      obtain ⟨g1, g2, g3⟩ := ihx h.2
      refine ⟨?_, ?_, ?_⟩
      · show (toPy x).bind _ = _
        rw [h1]
        show (toPyA xs).map _ = _
        rw [g1]
        rfl
      · show (PyData.canLay0 (toP x) && PyData.canLayAll0 (toPA xs)) = true
        rw [h2, g2]
        rfl
      · show max (PyData.depth (toP x)) (PyData.depthAll (toPA xs)) ≤ n
        omega
  intro n
  induction n with
  | zero =>
    intro x h
    cases x with
    | non => exact ⟨rfl, rfl, Nat.le_refl _⟩
    | int i => exact ⟨rfl, rfl, Nat.le_refl _⟩
    | str z => exact ⟨rfl, h, Nat.le_refl _⟩
    | _ => cases h
  | succ n ih =>
    intro x h
    cases x with
    | non => exact ⟨rfl, rfl, Nat.zero_le _⟩
    | int i => exact ⟨rfl, rfl, Nat.zero_le _⟩
    | str z => exact ⟨rfl, h, Nat.zero_le _⟩
    | lst xs =>
      obtain ⟨h1, h2, h3⟩ := lists n ih xs h
      refine ⟨?_, h2, ?_⟩
      · show (toPyA xs).map _ = _
        rw [h1]
        rfl
      · show PyData.depthAll (toPA xs) + 1 ≤ n + 1
        omega
    | tup xs =>
      obtain ⟨h1, h2, h3⟩ := lists n ih xs h
      refine ⟨?_, h2, ?_⟩
      · show (toPyA xs).map _ = _
        rw [h1]
        rfl
      · show PyData.depthAll (toPA xs) + 1 ≤ n + 1
        omega
    | _ => cases h
theorem eqv_iff : ∀ (n : Nat) (x y : D), sh n x = true → sh n y = true → (PyData.eqv (toP x) (toP y) = true ↔ x = y) := by
  have lists : ∀ (n : Nat), (∀ x y : D, sh n x = true → sh n y = true → (PyData.eqv (toP x) (toP y) = true ↔ x = y)) → ∀ xs ys : List D, xs.all (sh n) = true → ys.all (sh n) = true → (PyData.eqvAll (toPA xs) (toPA ys) = true ↔ xs = ys) := by
    intro n ih xs
    induction xs with
    | nil =>
      intro ys _ _
      cases ys with
      | nil => exact ⟨fun _ => rfl, fun _ => rfl⟩
      | cons y ys => exact ⟨fun h => (by cases h), fun h => (by cases h)⟩
    | cons x xs ihx =>
      intro ys hx hy
      cases ys with
      | nil => exact ⟨fun h => (by cases h), fun h => (by cases h)⟩
      | cons y ys =>
        rw [List.all_cons, Bool.and_eq_true] at hx hy
        have h1 := ih x y hx.1 hy.1
        have h2 := ihx ys hx.2 hy.2
        show (PyData.eqv (toP x) (toP y) && PyData.eqvAll (toPA xs) (toPA ys)) = true ↔ _
        rw [Bool.and_eq_true, h1, h2]
        exact ⟨fun ⟨a, b⟩ => by rw [a, b], fun h => ⟨(List.cons.inj h).1, (List.cons.inj h).2⟩⟩
  intro n
  induction n with
  | zero =>
    intro x y hx hy
    cases x <;> try cases hx
    all_goals cases y <;> try cases hy
    all_goals simp [toP, PyData.eqv]
  | succ n ih =>
    intro x y hx hy
    cases x <;> try cases hx
    all_goals cases y <;> try cases hy
    any_goals (simp [toP, PyData.eqv]; done)
    · rename_i xs ys
      have := lists n ih xs ys hx hy
      simp only [toP, PyData.eqv, D.lst.injEq]
      exact this
    · rename_i xs ys
      have := lists n ih xs ys hx hy
      simp only [toP, PyData.eqv, D.tup.injEq]
      exact this
theorem shaped_of {n : Nat} {x : D} (hn : n ≤ 64) (h : sh n x = true) : SeqAt.shaped (toP x) = true := by
  obtain ⟨_, h2, h3⟩ := sh_py n x h
  unfold SeqAt.shaped
  rw [h2, Bool.true_and]
  exact decide_eq_true (by omega)
theorem eqS_iff {neg : Bool} {x y z : D} (h : eqS neg x y = some z) : ∃ b, z = .bl (neg ^^ b) ∧ (b = true ↔ x = y) := by
  cases x <;> try cases h
  all_goals cases y <;> try cases h
  · exact ⟨_, rfl, by rw [decide_eq_true_eq]; exact ⟨fun h => by rw [h], fun h => by cases h; rfl⟩⟩
  · exact ⟨_, rfl, by rw [decide_eq_true_eq]; exact ⟨fun h => by rw [h], fun h => by cases h; rfl⟩⟩
  · exact ⟨_, rfl, by rw [decide_eq_true_eq]; exact ⟨fun h => by rw [h], fun h => by cases h; rfl⟩⟩
theorem beq_iff {neg : Bool} {n : Nat} {x y : D} (hn : n ≤ 64) (hx : sh n x = true) (hy : sh n y = true) : ∃ b, bEqN neg x y = some (.bl (neg ^^ b)) ∧ (b = true ↔ x = y) := by
  cases e : eqS neg x y with
  | some z =>
    obtain ⟨b, rfl, h⟩ := eqS_iff e
    exact ⟨b, by unfold bEqN; rw [e]; rfl, h⟩
  | none =>
    refine ⟨PyData.eqv (toP x) (toP y), ?_, eqv_iff n x y hx hy⟩
    unfold bEqN
    rw [e]
    show eqP neg x y = _
    unfold eqP
    rw [(sh_py n x hx).1, (sh_py n y hy).1]
    exact if_pos ⟨shaped_of hn hx, shaped_of hn hy⟩
theorem beq_ob {neg : Bool} {n : Nat} {x y : D} {P : D → Prop} (hn : n ≤ 64) (hx : sh n x = true) (hy : sh n y = true) (h1 : x = y → P (.bl (!neg))) (h2 : x ≠ y → P (.bl neg)) : ob (bEqN neg x y) P := by
  obtain ⟨b, e, h⟩ := beq_iff (neg := neg) hn hx hy
  rw [e]
  cases b with
  | true => have := h1 (h.mp rfl); cases neg <;> exact this
  | false => have := h2 (fun z => by have := h.mpr z; cases this); cases neg <;> exact this
theorem name_ok {z : Str} (h : NameOk z) : PyData.strOk z = true := by
  unfold PyData.strOk
  rw [← Array.all_toList, List.all_eq_true]
  intro c hc
  have := h.2.2 c hc
  unfold Low at this
  exact decide_eq_true (by omega)
def likeD : Nat → D → Bool
  | n + 1, .lst xs => decide (xs.length ≤ 100000) && xs.all (likeD n)
  | n + 1, .tup xs => decide (xs.length ≤ 100000) && xs.all (likeD n)
  | _, .non => true
  | _, .bl _ => true
  | _, .int _ => true
  | _, .str x => PyData.strOk x
  | _, _ => false
def sp_like : Nat → DSp
  | 0 => fun _ _ => False
  | n + 1 => fun ds P => ∃ x, ds = [x, x] ∧ likeD n x = true ∧ P (.bl true)
def d_like (sp_like : DSp) : TDS := (sSeq (sIf (dOrT (dT (dO2 (bEqN true) (dIs "tuple" (dV 1)) (dIs "tuple" (dV 0)))) (dT (dO2 (bEqN true) (dIs "list" (dV 1)) (dIs "list" (dV 0))))) (sRet (dC (.bl false))) sNil)
  (sSeq (sIf (dNotT (dT (dIsA ["tuple", "list"] (dV 1)))) (sRet (dAndV (dO2 (bEqN false) (dIs "bool" (dV 0)) (dIs "bool" (dV 1))) (dO2 (bEqN false) (dV 0) (dV 1)))) sNil)
  (sRet (dAndV (dO2 (bEqN false) (dCa lenD (aCons (dV 0) aNil)) (dCa lenD (aCons (dV 1) aNil))) (dCa allD (aCons (dLc (iRng (aCons (dCa lenD (aCons (dV 1) aNil)) aNil)) (gNm 2) tYesD (dCall sp_like (aCons (dO2 bIx (dV 0) (dV 2)) (aCons (dO2 bIx (dV 1) (dV 2)) aNil))) [2]) aNil))))))
theorem beq_self {x : D} (h : likeD 0 x = true) : bEqN false x x = some (.bl true) := by
  cases x <;> try cases h
  · rfl
  · simp [bEqN, eqS]
  · simp [bEqN, eqS]
  · simp [bEqN, eqS]
theorem rng_map (n : Nat) : rngD 0 n = (List.range n).map fun k => D.int ((k : Nat) : Int) := by
  unfold rngD
  exact List.map_congr_left fun k _ => by rw [Int.zero_add]
theorem rd_like {n : Nat} {ds : List D} {P : D → Prop} (h : sp_like (n + 1) ds P) : d_like (sp_like n) (fin false P) (st 3 ds) := by
  obtain ⟨x, rfl, hx, q⟩ := h
  have isb : ∀ b : Bool, bEqN true (.bl b) (.bl b) = some (.bl false) := fun b => by simp [bEqN, eqS]
  have isc : ∀ b : Bool, bEqN false (.bl b) (.bl b) = some (.bl true) := fun b => by simp [bEqN, eqS]
  have ty : ∀ T, T = "tuple" ∨ T = "list" ∨ T = "bool" → ∃ b, isD T x = some b := by
    intro T hT
    have key : ∀ t, t ∈ ["NoneType", "bool", "int", "str", "list", "tuple"] → ∃ b, kitB t T = some b := by
      intro t ht
      simp only [List.mem_cons, List.not_mem_nil, or_false] at ht
      rcases ht with rfl | rfl | rfl | rfl | rfl | rfl <;> rcases hT with rfl | rfl | rfl <;> first | exact ⟨true, by decide +kernel⟩ | exact ⟨false, by decide +kernel⟩
    unfold isD
    cases n <;> cases x <;> first | (cases hx; done) | exact key _ (by simp)
  obtain ⟨b1, h1⟩ := ty "tuple" (.inl rfl)
  obtain ⟨b2, h2⟩ := ty "list" (.inr (.inl rfl))
  obtain ⟨b3, h3⟩ := ty "bool" (.inr (.inr rfl))
  have hany : isAnyD x ["tuple", "list"] = some (b1 || b2) := by
    unfold isAnyD isAnyD isAnyD
    rw [h1, h2]
    cases b1 <;> cases b2 <;> rfl
  have seqs : ∀ (xs : List D), (x = .lst xs ∨ x = .tup xs) → xs.length ≤ 100000 → (∀ y ∈ xs, likeD (n - 1) y = true) → 1 ≤ n → lenD [x] = some (.int xs.length) → (∀ k : Nat, ∀ y, xs[k]? = some y → bIx x (.int ((k : Nat) : Int)) = some y) → (b1 || b2) = true → d_like (sp_like n) (fin false P) (st 3 [x, x]) := by
    intro xs _ hl hall hn hlen hix hb
    simp only [d_like, dC, dV, dB, dO2, ob_some, dT, dAndT, dOrT, dNotT, dIf, dAndV, dOrV, dNotV, dChain, aNil, aCons, dTup, dLst, dCut, oNone, oSome, dRev, dNeg, dTru, dCa, dIs, dIsA, dCall, dCallK, sNil, sSeq, sNever, sBrk, sCont, sIf, sRet, sRetO, sRetE, sSet, sSetO, sDrop, sPar, sPar3, kn, enOf, owD, sAsg, gNm, gsNil, gsCons, gTp, sApp, sIns, sExt, sClr, sRev, sPut, sFrz, owAt, fin, st, iRng, iRngB, iSeq, lstD, tupD, sFor, dLc, dDc, wipeE, tYesD, dIndex, dSort, dDictZip, dMeth, dFld, dMk, List.map_cons, List.map_nil, List.length_cons, List.length_nil, List.replicate_succ, List.replicate_zero, List.cons_append, List.nil_append, List.append_nil, List.getElem?_cons_zero, List.getElem?_cons_succ, List.set_cons_zero, List.set_cons_succ, Option.bind_some, Option.map_some, Nat.reduceSub, Nat.reduceAdd, kwP, List.getD_cons_zero, List.getD_cons_succ, h1, h2, isb, hany, hb, hlen, bEq_i, decide_true, if_true, Bool.not_true, Bool.false_eq_true, if_false]
    refine ⟨by omega, by omega, ?_⟩
    rw [Int.toNat_natCast, rng_map]
    refine comp_map (fun k : Nat => D.int ((k : Nat) : Int)) (fun _ => D.bl true) (List.range xs.length) [] (fun k hk Q Z hQ => ?_) (by simp; omega) ?_
    · have hk' : k < xs.length := List.mem_range.mp hk
      simp only [dC, dV, dB, dO2, ob_some, dT, dAndT, dOrT, dNotT, dIf, dAndV, dOrV, dNotV, dChain, aNil, aCons, dTup, dLst, dCut, oNone, oSome, dRev, dNeg, dTru, dCa, dIs, dIsA, dCall, dCallK, sNil, sSeq, sNever, sBrk, sCont, sIf, sRet, sRetO, sRetE, sSet, sSetO, sDrop, sPar, sPar3, kn, enOf, owD, sAsg, gNm, gsNil, gsCons, gTp, sApp, sIns, sExt, sClr, sRev, sPut, sFrz, owAt, fin, st, iRng, iRngB, iSeq, lstD, tupD, sFor, dLc, dDc, wipeE, tYesD, dIndex, dSort, dDictZip, dMeth, dFld, dMk, List.map_cons, List.map_nil, List.length_cons, List.length_nil, List.replicate_succ, List.replicate_zero, List.cons_append, List.nil_append, List.append_nil, List.getElem?_cons_zero, List.getElem?_cons_succ, List.set_cons_zero, List.set_cons_succ, Option.bind_some, Option.map_some, Nat.reduceSub, Nat.reduceAdd, kwP, List.getD_cons_zero, List.getD_cons_succ, hix k _ (List.getElem?_eq_getElem hk'), if_true]
      obtain ⟨m, rfl⟩ : ∃ m, n = m + 1 := ⟨n - 1, by omega⟩
      exact ⟨_, rfl, hall _ (List.getElem_mem hk'), hQ⟩
    · have e : ((List.range xs.length).map fun _ => D.bl true) = (List.replicate xs.length true).map D.bl := by
        rw [List.map_replicate, List.map_const', List.length_range]
      rw [List.nil_append, e]
      show ob (allD [.lst ((List.replicate xs.length true).map D.bl)]) P
      rw [allD_map]
      show P (.bl ((List.replicate xs.length true).all id))
      have : (List.replicate xs.length true).all id = true := by
        rw [List.all_eq_true]
        intro b hb
        exact (List.mem_replicate.mp hb).2
      rw [this]
      exact q
  have leafs : likeD 0 x = true → isD "tuple" x = some false → isD "list" x = some false → d_like (sp_like n) (fin false P) (st 3 [x, x]) := by
    intro hl e1 e2
    have hany : isAnyD x ["tuple", "list"] = some false := by
      unfold isAnyD isAnyD isAnyD
      rw [e1, e2]
      rfl
    simp only [d_like, dC, dV, dB, dO2, ob_some, dT, dAndT, dOrT, dNotT, dIf, dAndV, dOrV, dNotV, dChain, aNil, aCons, dTup, dLst, dCut, oNone, oSome, dRev, dNeg, dTru, dCa, dIs, dIsA, dCall, dCallK, sNil, sSeq, sNever, sBrk, sCont, sIf, sRet, sRetO, sRetE, sSet, sSetO, sDrop, sPar, sPar3, kn, enOf, owD, sAsg, gNm, gsNil, gsCons, gTp, sApp, sIns, sExt, sClr, sRev, sPut, sFrz, owAt, fin, st, iRng, iRngB, iSeq, lstD, tupD, sFor, dLc, dDc, wipeE, tYesD, dIndex, dSort, dDictZip, dMeth, dFld, dMk, List.map_cons, List.map_nil, List.length_cons, List.length_nil, List.replicate_succ, List.replicate_zero, List.cons_append, List.nil_append, List.append_nil, List.getElem?_cons_zero, List.getElem?_cons_succ, List.set_cons_zero, List.set_cons_succ, Option.bind_some, Option.map_some, Nat.reduceSub, Nat.reduceAdd, kwP, List.getD_cons_zero, List.getD_cons_succ, e1, e2, h3, isb, isc, hany, beq_self hl, if_true, Bool.not_false, Bool.false_eq_true, if_false]
    exact q
  cases x with
  | lst xs =>
    cases n with
    | zero => cases hx
    | succ n =>
      have hx' : (decide (xs.length ≤ 100000) && xs.all (likeD n)) = true := hx
      rw [Bool.and_eq_true] at hx'
      refine seqs xs (.inl rfl) (of_decide_eq_true hx'.1) (fun y hy => List.all_eq_true.mp hx'.2 y hy) (by omega) rfl (fun k y h => bIx_l h) ?_
      have : b2 = true := by
        have : isD "list" (.lst xs) = some true := (by decide +kernel : kitB "list" "list" = some true)
        rw [h2] at this
        exact Option.some.inj this
      rw [this]
      simp
  | tup xs =>
    cases n with
    | zero => cases hx
    | succ n =>
      have hx' : (decide (xs.length ≤ 100000) && xs.all (likeD n)) = true := hx
      rw [Bool.and_eq_true] at hx'
      refine seqs xs (.inr rfl) (of_decide_eq_true hx'.1) (fun y hy => List.all_eq_true.mp hx'.2 y hy) (by omega) rfl (fun k y h => bIx_tp h) ?_
      have : b1 = true := by
        have : isD "tuple" (.tup xs) = some true := (by decide +kernel : kitB "tuple" "tuple" = some true)
        rw [h1] at this
        exact Option.some.inj this
      rw [this]
      simp
  | non => exact leafs rfl (by decide +kernel) (by decide +kernel)
  | bl b => exact leafs rfl (by show kitB "bool" "tuple" = some false; decide +kernel) (by show kitB "bool" "list" = some false; decide +kernel)
  | int i => exact leafs rfl (by show kitB "int" "tuple" = some false; decide +kernel) (by show kitB "int" "list" = some false; decide +kernel)
  | str z => exact leafs (by cases n <;> exact hx) (by show kitB "str" "tuple" = some false; decide +kernel) (by show kitB "str" "list" = some false; decide +kernel)
  | _ => cases n <;> cases hx
end DL
namespace DL
open PySem PySem.Spec PyProof.Rows L2 RK
abbrev Win := Str × R
def wk (w : Win) : Key × D := (Sum.inr w.1, rectD w.2)
def winD (ws : List Win) : D := .dic (ws.map wk)
def nms (ws : List Win) : List Str := ws.map (·.1)
structure WOk (ws : List Win) : Prop where
  nd : (nms ws).Nodup
  nm : ∀ w ∈ ws, NameOk w.1
  gd : ∀ w ∈ ws, w.2.good
def Sm (p : R) : Prop := p.good ∧ p.r - p.l ≤ 400000000 ∧ p.b - p.t ≤ 400000000
def WSm (ws : List Win) : Prop := ∀ w ∈ ws, Sm w.2
theorem sm_scaled {c x y x2 y2 : Int} (c0 : 1 ≤ c) (c1 : c ≤ 100000000) (a1 : -4 ≤ x) (a2 : x ≤ 4) (a3 : -4 ≤ y) (a4 : y ≤ 4) (a5 : x < x2) (a6 : x2 ≤ x + 4) (a7 : y < y2) (a8 : y2 ≤ y + 4) : Sm ⟨c * x, c * y, c * x2, c * y2⟩ := by
  refine ⟨good_scaled c0 c1 a1 a2 a3 a4 a5 a6 a7 a8, ?_, ?_⟩
  · show c * x2 - c * x ≤ 400000000
    rw [← Int.mul_sub]
    have h1 : c * (x2 - x) ≤ c * 4 := Int.mul_le_mul_of_nonneg_left (by omega) (by omega)
    omega
  · show c * y2 - c * y ≤ 400000000
    rw [← Int.mul_sub]
    have h1 : c * (y2 - y) ≤ c * 4 := Int.mul_le_mul_of_nonneg_left (by omega) (by omega)
    omega
theorem WOk.perm {ws us : List Win} (h : WOk ws) (p : us.Perm ws) : WOk us := ⟨(p.map _).nodup_iff.mpr h.nd, fun w hw => h.nm w (p.mem_iff.mp hw), fun w hw => h.gd w (p.mem_iff.mp hw)⟩
theorem nodup_inj {α β : Type} {f : α → β} {l : List α} (inj : ∀ a b, f a = f b → a = b) (h : l.Nodup) : (l.map f).Nodup := by
  rw [List.nodup_iff_pairwise_ne, List.pairwise_map]
  exact (List.nodup_iff_pairwise_ne.mp h).imp fun hab e => hab (inj _ _ e)
theorem keys_str : ∀ zs : List Str, keysD (zs.map D.str) = some (zs.map Sum.inr)
  | [] => rfl
  | z :: zs => by
    show (keyD (.str z)).bind (fun k => (keysD (zs.map D.str)).map fun ks => k :: ks) = _
    rw [keys_str zs]
    rfl
theorem perm_str {ys : List D} {zs : List Str} (h : ys.Perm (zs.map D.str)) : ∃ us : List Str, ys = us.map D.str ∧ us.Perm zs := by
  have key : ∀ (ys : List D), (∀ y ∈ ys, ∃ z, y = D.str z) → ∃ us : List Str, ys = us.map D.str := by
    intro ys
    induction ys with
    | nil => intro _; exact ⟨[], rfl⟩
    | cons y ys ih =>
      intro h
      obtain ⟨z, rfl⟩ := h y List.mem_cons_self
      obtain ⟨us, rfl⟩ := ih fun w hw => h w (List.mem_cons_of_mem _ hw)
      exact ⟨z :: us, rfl⟩
  obtain ⟨us, rfl⟩ := key ys fun y hy => by
    obtain ⟨z, _, e⟩ := List.mem_map.mp (h.mem_iff.mp hy)
    exact ⟨z, e.symm⟩
  refine ⟨us, rfl, ?_⟩
  have h2 := h.map fun d => match d with | D.str z => z | _ => Str.empty
  rw [List.map_map, List.map_map] at h2
  have e : ((fun d => match d with | D.str z => z | _ => Str.empty) ∘ D.str) = id := rfl
  rw [e, List.map_id, List.map_id] at h2
  exact h2
theorem bPow_i {i j : Int} (h : 0 ≤ j ∧ j ≤ 1000000 ∧ i.natAbs < 2 ^ 64) : bPow (.int i) (.int j) = some (.int (i ^ j.toNat)) := by
  show (if decide _ = true then some (D.int (i ^ j.toNat)) else none) = _
  rw [if_pos (decide_eq_true h)]
theorem rects_of {us : List Str} {rs : List D} (h : Paired (fun (_ : Str) d => ∃ p : R, d = rectD p ∧ Sm p) us rs) : ∃ ps : List R, rs = ps.map rectD ∧ ps.length = us.length ∧ ∀ p ∈ ps, Sm p := by
  induction h with
  | nil => exact ⟨[], rfl, rfl, fun p hp => by cases hp⟩
  | cons h t ih =>
    obtain ⟨p, rfl, gp⟩ := h
    obtain ⟨ps, rfl, h2, h3⟩ := ih
    refine ⟨p :: ps, rfl, by simp [h2], fun p' hp' => ?_⟩
    rcases List.mem_cons.mp hp' with rfl | h
    · exact gp
    · exact h3 p' h
def sp_windows : DSp := fun ds P => ∃ lo hi : Int, ds = [.bag, .int lo, .int hi] ∧ 1 ≤ lo ∧ lo ≤ hi ∧ hi ≤ 24 ∧ ∀ ws : List Win, WOk ws → WSm ws → lo ≤ ws.length → (ws.length : Int) ≤ hi → P (winD ws)
def d_windows : TDS := (sSeq (sSet 3 (dCall sp_mixed (aCons (dV 0) (aCons (dCall sp_names (aCons (dV 0) (aCons (dO2 bAdd (dV 1) (dCall sp_pull (aCons (dV 0) (aCons (dO2 bAdd (dO2 bSub (dV 2) (dV 1)) (dC (.int 1))) aNil)))) aNil))) aNil))))
  (sSeq (sAsg (dTup (aCons (dCall sp_of (aCons (dV 0) (aCons (dLst (aCons (dC (.int 1)) (aCons (dC (.int 1)) (aCons (dC (.int 3)) (aCons (dO2 bPow (dC (.int 10)) (dC (.int 8))) aNil))))) aNil))) (aCons (dCall sp_pull (aCons (dV 0) (aCons (dC (.int 4)) aNil))) aNil))) (gTp 2 (gsCons (gNm 4) (gsCons (gNm 5) gsNil))))
  (sSeq (sSet 6 (dCall sp_rectangle (aCons (dV 0) (aCons (dV 4) aNil))))
  (sSeq (sSet 7 (dLc (iSeq (dV 3)) (gNm 8) tYesD (dIf (dOrT (dT (dO2 (bEqN false) (dV 5) (dC (.int 0)))) (dAndT (dT (dO2 (bEqN false) (dV 5) (dC (.int 1)))) (dT (dO2 (bEqN false) (dCall sp_pull (aCons (dV 0) (aCons (dC (.int 2)) aNil))) (dC (.int 0)))))) (dV 6) (dCall sp_rectangle (aCons (dV 0) (aCons (dV 4) aNil)))) [8]))
  (sRet (dDictZip (aCons (dV 3) (aCons (dV 7) aNil))))))))
theorem rd_windows {ds : List D} {P : D → Prop} (h : sp_windows ds P) : d_windows (fin true P) (st 9 ds) := by
  obtain ⟨lo, hi, rfl, l0, l1, l2, q⟩ := h
  have ep : bPow (.int 10) (.int 8) = some (.int 100000000) := bPow_i (by decide)
  simp only [d_windows, dC, dV, dO2, ob_some, aNil, aCons, dTup, dLst, dCall, sSeq, sRet, sSet, sAsg, gNm, gsNil, gsCons, gTp, fin, st, iSeq, lstD, tupD, dLc, wipeE, dDictZip, List.map_cons, List.map_nil, List.length_cons, List.length_nil, List.replicate_succ, List.replicate_zero, List.cons_append, List.nil_append, List.getElem?_cons_zero, List.getElem?_cons_succ, List.set_cons_zero, List.set_cons_succ, Nat.reduceSub, Nat.reduceAdd, bAdd_i, bSub, iI0, ep]
  refine ⟨_, rfl, by omega, by omega, fun r r0 r1 => ⟨_, rfl, by omega, by omega, fun zs hl hz nd => ⟨_, .inl rfl, by rw [List.length_map]; omega, fun ys hp0 => ?_⟩⟩⟩
  obtain ⟨us, rfl, hp⟩ := perm_str hp0
  have hlu : us.length = (lo + r).toNat := by rw [hp.length_eq, hl]
  refine ⟨by decide, .inl ⟨_, .inl rfl, by decide, by decide, fun x hx => ?_⟩⟩
  obtain ⟨c, rfl, c1, c2⟩ : ∃ c : Int, x = .int c ∧ 1 ≤ c ∧ c ≤ 100000000 := by
    simp only [List.mem_cons, List.not_mem_nil, or_false] at hx
    rcases hx with rfl | rfl | rfl | rfl
    · exact ⟨1, rfl, by decide, by decide⟩
    · exact ⟨1, rfl, by decide, by decide⟩
    · exact ⟨3, rfl, by decide, by decide⟩
    · exact ⟨_, rfl, by decide, by decide⟩
  refine ⟨_, rfl, by decide, by decide, fun w w0 w1 => ⟨by decide, trivial, trivial, ?_⟩⟩
  have good : ∀ x y x2 y2 : Int, -4 ≤ x → x ≤ 4 → -4 ≤ y → y ≤ 4 → x < x2 → x2 ≤ x + 4 → y < y2 → y2 ≤ y + 4 → Sm ⟨c * x, c * y, c * x2, c * y2⟩ := fun x y x2 y2 a1 a2 a3 a4 a5 a6 a7 a8 => sm_scaled c1 c2 a1 a2 a3 a4 a5 a6 a7 a8
  refine ⟨c, rfl, c1, c2, fun x y x2 y2 a1 a2 a3 a4 a5 a6 a7 a8 => ?_⟩
  have g0 := good x y x2 y2 a1 a2 a3 a4 a5 a6 a7 a8
  refine .inl ?_
  refine comp_all D.str (fun _ d => ∃ p : R, d = rectD p ∧ Sm p) us [] (fun z hz Q Z hQ => ?_) (by simp; omega) (fun rs hrs => ?_)
  · simp only [dC, dV, dO2, ob_some, dT, dAndT, dOrT, dIf, aNil, aCons, dCall, gNm, tYesD, List.getElem?_cons_zero, List.getElem?_cons_succ, List.set_cons_zero, List.set_cons_succ, bEq_i, if_true]
    have yes : Q (rectD ⟨c * x, c * y, c * x2, c * y2⟩) := hQ _ ⟨_, rfl, g0⟩
    have no : sp_rectangle [.bag, .int c] Q := ⟨c, rfl, c1, c2, fun x y x2 y2 a1 a2 a3 a4 a5 a6 a7 a8 => hQ _ ⟨_, rfl, good x y x2 y2 a1 a2 a3 a4 a5 a6 a7 a8⟩⟩
    refine ite2 (fun _ => yes) (fun _ => ite2 (fun _ => ⟨_, rfl, by decide, by decide, fun v _ _ => ite2 (fun _ => yes) (fun _ => no)⟩) (fun _ => ?_))
    exact no
  · obtain ⟨ps, rfl, hps, hg⟩ := rects_of hrs
    simp only [ob_some, List.nil_append, keys_str]
    refine ⟨by simp [hps], ?_⟩
    have e : (us.map (Sum.inr : Str → Key)).zip (ps.map rectD) = (us.zip ps).map wk := by
      rw [List.zip_map]
      rfl
    have nmz : nms (us.zip ps) = us := List.map_fst_zip (by omega)
    rw [e, mergeD_new _ [] (by
      rw [List.nil_append, List.map_map]
      have : ((fun kd : Key × D => kd.1) ∘ wk) = Sum.inr ∘ (fun w : Win => w.1) := rfl
      rw [this, ← List.map_map]
      refine nodup_inj (fun a b h => Sum.inr.inj h) ?_
      show (nms (us.zip ps)).Nodup
      rw [nmz]
      exact hp.nodup_iff.mpr nd), List.nil_append]
    refine q (us.zip ps) ⟨by rw [nmz]; exact hp.nodup_iff.mpr nd, fun v hv => hz _ (hp.mem_iff.mp (List.of_mem_zip hv).1), fun v hv => (hg _ (List.of_mem_zip hv).2).1⟩ (fun v hv => hg _ (List.of_mem_zip hv).2) ?_ ?_
    · rw [List.length_zip]
      omega
    · rw [List.length_zip]
      omega
end DL
namespace DL
open PySem PySem.Spec PyProof.Rows L2 RK
instance (p : R) : Decidable p.good := by unfold R.good; infer_instance
instance (p : R) (x y : Int) : Decidable (p.has x y) := by unfold R.has; infer_instance
instance (c : Nat) : Decidable (Low c) := by unfold Low; infer_instance
instance (z : Str) : Decidable (NameOk z) := by unfold NameOk; infer_instance
theorem is_tt {xs : List D} : isD "tuple" (.tup xs) = some true := (by decide +kernel : kitB "tuple" "tuple" = some true)
theorem is_ii {i : Int} : isD "int" (.int i) = some true := (by decide +kernel : kitB "int" "int" = some true)
theorem is_ss {z : Str} : isD "str" (.str z) = some true := (by decide +kernel : kitB "str" "str" = some true)
theorem bNe_i (i j : Int) : bEqN true (.int i) (.int j) = some (.bl (!decide (i = j))) := by
  show (some (D.bl (true ^^ decide (i = j)))).or _ = _
  rw [Bool.true_xor]
  rfl
theorem bLe_i (i j : Int) : bLe (.int i) (.int j) = some (.bl (decide (i ≤ j))) := rfl
theorem bLt_i (i j : Int) : bLt (.int i) (.int j) = some (.bl (decide (i < j))) := rfl
theorem iLt_i (i j : Int) : iI0 (fun i j => D.bl (decide (i < j))) (.int i) (.int j) = some (.bl (decide (i < j))) := rfl
def sp_has_four_numbers : DSp := fun ds P => ∃ r : R, ds = [rectD r] ∧ P (.bl true)
def d_has_four_numbers : TDS := (sSeq (sIf (dOrT (dNotT (dT (dIs "tuple" (dV 0)))) (dT (dO2 (bEqN true) (dCa lenD (aCons (dV 0) aNil)) (dC (.int 4))))) (sRet (dC (.bl false))) sNil)
  (sRet (dCa allD (aCons (dLc (iSeq (dV 0)) (gNm 1) tYesD (dIs "int" (dV 1)) [1]) aNil))))
theorem rd_has_four_numbers {ds : List D} {P : D → Prop} (h : sp_has_four_numbers ds P) : d_has_four_numbers (fin false P) (st 2 ds) := by
  obtain ⟨r, rfl, q⟩ := h
  simp only [d_has_four_numbers, dC, dV, dO2, ob_some, dT, dOrT, dNotT, aNil, aCons, dCa, dIs, sNil, sSeq, sIf, sRet, fin, st, iSeq, lstD, tupD, dLc, wipeE, List.map_cons, List.map_nil, List.length_cons, List.length_nil, List.replicate_succ, List.replicate_zero, List.cons_append, List.nil_append, List.getElem?_cons_zero, List.set_cons_zero, List.set_cons_succ, Nat.reduceSub, Nat.reduceAdd, rectD, is_tt, lenD, bNe_i, Bool.not_true, Bool.false_eq_true, if_false]
  refine ite2 (fun h => by simp at h) (fun _ => .inr (.inl ?_))
  refine comp_map id (fun _ => D.bl true) [.int r.l, .int r.t, .int r.r, .int r.b] [] (fun x hx Q Z hQ => ?_) (by simp) ?_
  · obtain ⟨i, rfl⟩ : ∃ i, x = .int i := by
      simp only [List.mem_cons, List.not_mem_nil, or_false] at hx
      rcases hx with rfl | rfl | rfl | rfl <;> exact ⟨_, rfl⟩
    simp only [dV, ob_some, dIs, gNm, tYesD, List.getElem?_cons_zero, List.getElem?_cons_succ, List.set_cons_zero, List.set_cons_succ, id, is_ii, if_true]
    exact hQ
  · exact q
def sp_is_rectangle : DSp := fun ds P => ∃ r : R, ds = [rectD r] ∧ P (.bl (decide r.good))
def d_is_rectangle : TDS := (sSeq (sIf (dNotT (dT (dCall sp_has_four_numbers (aCons (dV 0) aNil)))) (sRet (dC (.bl false))) sNil)
  (sSeq (sAsg (dV 0) (gTp 4 (gsCons (gNm 1) (gsCons (gNm 2) (gsCons (gNm 3) (gsCons (gNm 4) gsNil))))))
  (sSeq (sIf (dNotT (dT (dCa allD (aCons (dLc (iSeq (dV 0)) (gNm 5) tYesD (dChain bLe bLe (dNeg (dC (.int 1000000000))) (dV 5) (dC (.int 1000000000))) [5]) aNil)))) (sRet (dC (.bl false))) sNil)
  (sRet (dAndV (dO2 bLt (dV 1) (dV 3)) (dO2 bLt (dV 2) (dV 4)))))))
theorem rd_is_rectangle {ds : List D} {P : D → Prop} (h : sp_is_rectangle ds P) : d_is_rectangle (fin false P) (st 6 ds) := by
  obtain ⟨r, rfl, q⟩ := h
  simp only [d_is_rectangle, dC, dV, dO2, ob_some, dT, dNotT, dAndV, aNil, aCons, dCa, dCall, sNil, sSeq, sIf, sRet, sAsg, gNm, gsNil, gsCons, gTp, fin, st, iSeq, lstD, tupD, dLc, wipeE, List.map_cons, List.map_nil, List.length_cons, List.length_nil, List.replicate_succ, List.replicate_zero, List.cons_append, List.nil_append, List.getElem?_cons_zero, List.getElem?_cons_succ, List.set_cons_zero, List.set_cons_succ, Nat.reduceSub, Nat.reduceAdd, rectD]
  refine ⟨r, rfl, ?_⟩
  simp only [Bool.not_true, Bool.false_eq_true, if_false]
  refine ⟨trivial, trivial, .inr (.inl ?_)⟩
  refine comp_map id (fun x => match x with | .int i => D.bl (decide (-1000000000 ≤ i) && decide (i ≤ 1000000000)) | _ => .non) [.int r.l, .int r.t, .int r.r, .int r.b] [] (fun x hx Q Z hQ => ?_) (by simp) ?_
  · obtain ⟨i, rfl⟩ : ∃ i, x = .int i := by
      simp only [List.mem_cons, List.not_mem_nil, or_false] at hx
      rcases hx with rfl | rfl | rfl | rfl <;> exact ⟨_, rfl⟩
    simp only [dC, dV, ob_some, dChain, dNeg, gNm, tYesD, List.getElem?_cons_zero, List.getElem?_cons_succ, List.set_cons_zero, List.set_cons_succ, id, bLe_i, if_true]
    cases h1 : decide ((-1000000000 : Int) ≤ i) with
    | true => simp only [h1, Bool.true_and] at hQ; exact hQ
    | false => simp only [h1, Bool.false_and] at hQ; exact hQ
  · show ob (allD [.lst ([decide (-1000000000 ≤ r.l) && decide (r.l ≤ 1000000000), decide (-1000000000 ≤ r.t) && decide (r.t ≤ 1000000000), decide (-1000000000 ≤ r.r) && decide (r.r ≤ 1000000000), decide (-1000000000 ≤ r.b) && decide (r.b ≤ 1000000000)].map D.bl)]) _
    rw [allD_map]
    simp only [ob_some, List.all_cons, List.all_nil, id]
    refine ite2 (fun h => ?_) (fun h => ?_)
    · have : decide r.good = false := by
        rw [decide_eq_false_iff_not]
        rintro ⟨g1, g2, g3, g4, g5, g6, g7, g8, g9, g10⟩
        simp [g1, g2, g3, g4, g5, g6, g7, g8] at h
      rw [this] at q
      exact q
    · simp only [bLt_i, ob_some]
      have hb : -1000000000 ≤ r.l ∧ r.l ≤ 1000000000 ∧ -1000000000 ≤ r.t ∧ r.t ≤ 1000000000 ∧ -1000000000 ≤ r.r ∧ r.r ≤ 1000000000 ∧ -1000000000 ≤ r.b ∧ r.b ≤ 1000000000 := by
        simp at h
        omega
      have e : decide r.good = (decide (r.l < r.r) && decide (r.t < r.b)) := by
        rw [Bool.eq_iff_iff]
        simp only [decide_eq_true_eq, Bool.and_eq_true]
        exact ⟨fun g => ⟨g.2.2.2.2.2.2.2.2.1, g.2.2.2.2.2.2.2.2.2⟩, fun g => ⟨hb.1, hb.2.1, hb.2.2.1, hb.2.2.2.1, hb.2.2.2.2.1, hb.2.2.2.2.2.1, hb.2.2.2.2.2.2.1, hb.2.2.2.2.2.2.2, g.1, g.2⟩⟩
      rw [e] at q
      refine ite2 (fun h1 => ?_) (fun h1 => ?_)
      · rw [h1, Bool.true_and] at q
        exact q
      · rw [Bool.eq_false_iff.mpr h1, Bool.false_and] at q
        exact q
def sp_is_name : DSp := fun ds P => ∃ z : Str, ds = [.str z] ∧ z.length ≤ 1000000 ∧ P (.bl (decide (NameOk z)))
def d_is_name : TDS := (sSeq (sIf (dOrT (dNotT (dT (dIs "str" (dV 0)))) (dNotT (dT (dChain bLe bLe (dC (.int 1)) (dCa lenD (aCons (dV 0) aNil)) (dC (.int 6)))))) (sRet (dC (.bl false))) sNil)
  (sRet (dCa allD (aCons (dLc (iSeq (dV 0)) (gNm 1) tYesD (dO2 (bIn false) (dV 1) (dC (.str "abcdefghijklmnopqrstuvwxyz"))) [1]) aNil))))
theorem rd_is_name {ds : List D} {P : D → Prop} (h : sp_is_name ds P) : d_is_name (fin false P) (st 2 ds) := by
  obtain ⟨z, rfl, hz, q⟩ := h
  have hs : z.length ≤ sizeLine := Nat.le_of_lt (szM hz)
  have e : decide (NameOk z) = (decide ((1 : Int) ≤ z.length) && (decide ((z.length : Int) ≤ 6) && z.cps.toList.all fun c => decide (Low c))) := by
    rw [Bool.eq_iff_iff, decide_eq_true_iff, Bool.and_eq_true, Bool.and_eq_true, decide_eq_true_iff, decide_eq_true_iff, List.all_eq_true]
    constructor
    · rintro ⟨g1, g2, g3⟩
      exact ⟨by omega, by omega, fun c hc => decide_eq_true (g3 c hc)⟩
    · rintro ⟨g1, g2, g3⟩
      exact ⟨by omega, by omega, fun c hc => of_decide_eq_true (g3 c hc)⟩
  rw [e] at q
  simp only [d_is_name, dC, dV, ob_some, dT, dOrT, dNotT, dChain, aNil, aCons, dCa, dIs, sNil, sSeq, sIf, sRet, fin, st, iSeq, lstD, tupD, dLc, wipeE, List.map_cons, List.map_nil, List.length_cons, List.length_nil, List.replicate_succ, List.replicate_zero, List.cons_append, List.nil_append, List.getElem?_cons_zero, List.set_cons_zero, List.set_cons_succ, Nat.reduceSub, Nat.reduceAdd, is_ss, lenD, if_pos hs, bLe_i, Bool.not_true, Bool.false_eq_true, if_false]
  cases h1 : decide ((1 : Int) ≤ z.length) with
  | false => rw [h1, Bool.false_and] at q; simpa using q
  | true =>
    rw [h1, Bool.true_and] at q
    cases h2 : decide ((z.length : Int) ≤ 6) with
    | false => rw [h2, Bool.false_and] at q; simpa using q
    | true =>
      rw [h2, Bool.true_and] at q
      simp only [Bool.not_true, Bool.false_eq_true, if_false]
      refine .inr (.inr ?_)
      show dComp _ _ _ _ _ (z.cps.toList.map fun c => D.str ⟨#[c]⟩) []
      refine comp_map (fun c : Nat => D.str ⟨#[c]⟩) (fun c => D.bl (decide (Low c))) z.cps.toList [] (fun c hc Q Z hQ => ?_) (by rw [← str_len]; simp; omega) ?_
      · have e2 : bIn false (.str ⟨#[c]⟩) (.str "abcdefghijklmnopqrstuvwxyz") = some (.bl (decide (Low c))) := by
          show (none : Option D).or ((none : Option D).or ((some (D.bl (false ^^ decide (c ∈ abc.cps.toList)))).or _)) = _
          rw [Bool.false_xor, decide_eq_decide.mpr (abc_mem (c := c))]
          rfl
        simp only [dC, dV, dO2, ob_some, gNm, tYesD, List.getElem?_cons_zero, List.getElem?_cons_succ, List.set_cons_zero, List.set_cons_succ, e2, if_true]
        exact hQ
      · rw [List.nil_append, allD_f]
        exact q
end DL
namespace DL
open PySem PySem.Spec PyProof.Rows L2 RK
def look (us : List Win) (z : Str) : Option R := (us.find? fun w => decide (w.1 = z)).map (·.2)
theorem val_win (us : List Win) (z : Str) : valD (us.map wk) (Sum.inr z : Key) = (look us z).map rectD := by
  unfold valD look
  induction us with
  | nil => rfl
  | cons u us ih =>
    rw [List.map_cons, List.find?_cons, List.find?_cons]
    have e : decide ((wk u).1 = (Sum.inr z : Key)) = decide (u.1 = z) := decide_eq_decide.mpr inr_inj
    rw [e]
    cases decide (u.1 = z) with
    | true => rfl
    | false => exact ih
theorem look_mem {us : List Win} (nd : (nms us).Nodup) {w : Win} (h : w ∈ us) : look us w.1 = some w.2 := by
  unfold look
  induction us with
  | nil => cases h
  | cons u us ih =>
    rw [List.find?_cons]
    have nd' := List.nodup_cons.mp nd
    rcases List.mem_cons.mp h with rfl | h
    · rw [decide_eq_true rfl]
      rfl
    · have : u.1 ≠ w.1 := fun e => nd'.1 (by show u.1 ∈ _; rw [e]; exact List.mem_map.mpr ⟨w, h, rfl⟩)
      rw [decide_eq_false this]
      exact ih nd'.2 h
theorem bIx_win {us : List Win} {z : Str} {r : R} (h : look us z = some r) : bIx (winD us) (.str z) = some (rectD r) := by
  show (none : Option D).or ((none : Option D).or ((some (valD (us.map wk) (Sum.inr z : Key))).bind fun r => r)) = _
  rw [val_win, h]
  rfl
theorem txtKeys_win (us : List Win) : txtKeys (us.map wk) = some (nms us) := by
  induction us with
  | nil => rfl
  | cons u us ih =>
    show (txtKeys (us.map wk)).map _ = _
    rw [ih]
    rfl
def sp_check_windows : DSp := fun ds P => ∃ ws, ds = [winD ws] ∧ WOk ws ∧ 1 ≤ ws.length ∧ ws.length ≤ 24 ∧ P .non
theorem sort_name {ws : List Win} {ys : List Str} (W : WOk ws) (h : SortS (nms ws) ys) : ∀ y ∈ ys, NameOk y ∧ ∃ r, look ws y = some r ∧ r.good := fun y hy => by
  obtain ⟨w, hw, rfl⟩ := List.mem_map.mp (h.1.mem_iff.mp hy)
  exact ⟨W.nm w hw, w.2, look_mem W.nd hw, W.gd w hw⟩
def SortW (us : List Win) : Prop := (nms us).Pairwise leS
def sp_Desk___init : DSp := fun ds P => ∃ ws, ds = [winD ws] ∧ WOk ws ∧ 1 ≤ ws.length ∧ ws.length ≤ 24 ∧ ∀ us, us.Perm ws → SortW us → P (winD us)
def deskD (C : Addr) (us : List Win) : D := .obj C [("windows", winD us)]
theorem lookW (us : List Win) : ([(("windows" : Str), winD us)] : List (Str × D)).lookup ("windows" : Str) = some (winD us) := by
  simp [List.lookup]
end DL
namespace DL
open PySem PySem.Spec PyProof.Rows L2 RK
theorem ln_of {ds : List D} {P : D → Prop} (h : sp_of ds P) : ds.length = 2 := by
  rcases h with ⟨xs, h | h, _⟩ | ⟨z, h, _⟩ <;> (subst h; rfl)
theorem ln_mixed {ds : List D} {P : D → Prop} (h : sp_mixed ds P) : ds.length = 2 := by
  rcases h with ⟨xs, h | h, _⟩ <;> (subst h; rfl)
theorem ln_rectangle {ds : List D} {P : D → Prop} (h : sp_rectangle ds P) : ds.length = 2 := by obtain ⟨_, rfl, _⟩ := h; rfl
theorem ln_names {ds : List D} {P : D → Prop} (h : sp_names ds P) : ds.length = 2 := by obtain ⟨_, rfl, _⟩ := h; rfl
theorem ln_windows {ds : List D} {P : D → Prop} (h : sp_windows ds P) : ds.length = 3 := by obtain ⟨_, _, rfl, _⟩ := h; rfl
theorem ln_has_four_numbers {ds : List D} {P : D → Prop} (h : sp_has_four_numbers ds P) : ds.length = 1 := by obtain ⟨_, rfl, _⟩ := h; rfl
theorem ln_is_rectangle {ds : List D} {P : D → Prop} (h : sp_is_rectangle ds P) : ds.length = 1 := by obtain ⟨_, rfl, _⟩ := h; rfl
theorem ln_is_name {ds : List D} {P : D → Prop} (h : sp_is_name ds P) : ds.length = 1 := by obtain ⟨_, rfl, _⟩ := h; rfl
def e1_init : TDE := (dCall sp_check_windows (aCons (dV 1) aNil))
def e2_init : TDE := (dDc (iSeq (dSort (dV 1))) (gNm 2) tYesD (dV 2) (dO2 bIx (dV 1) (dV 2)) [2])
theorem dcomp_new {α : Type} {g : TDG} {tt : TDT} {tk tv : TDE} {P : D → Prop} {env : De} (enc : α → D) (f : α → Key × D) : ∀ (l : List α) (acc : List (Key × D)), (∀ a ∈ l, ∀ (Q : Key → D → Prop) (Z : Prop), Q (f a).1 (f a).2 → g (enc a) env fun env' => tt env' fun b => if b = true then tk env' fun k => tv env' fun y => ob (keyD k) fun k => Q k y else Z) →
    (acc ++ l.map f).length ≤ 1000000 → ((acc ++ l.map f).map (·.1)).Nodup → P (.dic (acc ++ l.map f)) → dDcomp g tt tk tv P env (l.map enc) acc
  | [], acc, _, _, _, q => by
    rw [List.map_nil, List.append_nil] at q
    exact q
  | a :: l, acc, h, hl, nd, q => by
    refine h a List.mem_cons_self (fun k y => acc.length < sizeLine ∧ dDcomp g tt tk tv P env (l.map enc) (putD acc k y)) _ ⟨szM (by simp at hl; omega), ?_⟩
    have hk : (acc.any fun kd => decide (kd.1 = (f a).1)) = false := by
      rw [Bool.eq_false_iff]
      intro hz
      obtain ⟨q', hq, e⟩ := List.any_eq_true.mp hz
      have e := of_decide_eq_true e
      rw [List.map_append, List.nodup_append] at nd
      exact nd.2.2 q'.1 (List.mem_map.mpr ⟨q', hq, rfl⟩) (f a).1 (by simp) e
    have e2 : putD acc (f a).1 (f a).2 = acc ++ [f a] := by
      unfold putD
      rw [hk]
      rfl
    rw [e2]
    refine dcomp_new enc f l (acc ++ [f a]) (fun b hb => h b (List.mem_cons_of_mem _ hb)) ?_ ?_ ?_
    · rw [List.append_assoc]; exact hl
    · rw [List.append_assoc]; exact nd
    · rw [List.append_assoc]; exact q
theorem nodup_wk {us : List Win} (h : (nms us).Nodup) : ((us.map wk).map (·.1)).Nodup := by
  rw [List.map_map]
  have : ((fun kd : Key × D => kd.1) ∘ wk) = Sum.inr ∘ (fun w : Win => w.1) := rfl
  rw [this, ← List.map_map]
  exact nodup_inj (fun a b h => Sum.inr.inj h) h
def byNames (ws : List Win) (ys : List Str) : List Win := ys.map fun y => (y, (look ws y).getD ⟨0, 0, 0, 0⟩)
theorem nms_by (ws : List Win) (ys : List Str) : nms (byNames ws ys) = ys := by
  unfold nms byNames
  rw [List.map_map]
  exact List.map_id _
theorem by_perm {ws : List Win} (nd : (nms ws).Nodup) {ys : List Str} (h : ys.Perm (nms ws)) : (byNames ws ys).Perm ws := by
  have h1 : (byNames ws ys).Perm (byNames ws (nms ws)) := h.map _
  have h2 : byNames ws (nms ws) = ws := by
    unfold byNames nms
    rw [List.map_map]
    have : ∀ w ∈ ws, ((fun y => (y, (look ws y).getD ⟨0, 0, 0, 0⟩)) ∘ fun w : Win => w.1) w = w := fun w hw => by
      show (w.1, (look ws w.1).getD ⟨0, 0, 0, 0⟩) = w
      rw [look_mem nd hw]
      rfl
    rw [List.map_congr_left this, List.map_id']
  rw [h2] at h1
  exact h1
theorem rd_Desk___init {ds : List D} {P : D → Prop} (h : sp_Desk___init ds P) : e1_init (.no :: st 2 ds) fun _ => e2_init (.no :: st 2 ds) P := by
  obtain ⟨ws, rfl, W, l1, l2, q⟩ := h
  simp only [e1_init, e2_init, dV, ob_some, aNil, aCons, dCall, st, iSeq, lstD, tupD, dDc, wipeE, dSort, List.map_cons, List.map_nil, List.length_cons, List.length_nil, List.replicate_succ, List.replicate_zero, List.cons_append, List.nil_append, List.getElem?_cons_zero, List.getElem?_cons_succ, List.set_cons_zero, List.set_cons_succ, Nat.reduceSub, Nat.reduceAdd]
  refine ⟨ws, rfl, W, l1, l2, ?_⟩
  simp only [winD]
  refine .inl ⟨_, txtKeys_win ws, by unfold nms; rw [List.length_map]; omega, fun ys hs => ?_⟩
  have hp := by_perm W.nd hs.1
  have hlen : ys.length ≤ 24 := by rw [hs.1.length_eq]; unfold nms; rw [List.length_map]; exact l2
  have eb : (ys.map fun y => wk (y, (look ws y).getD ⟨0, 0, 0, 0⟩)) = (byNames ws ys).map wk := by
    unfold byNames
    rw [List.map_map]
    rfl
  refine dcomp_new D.str (fun y => wk (y, (look ws y).getD ⟨0, 0, 0, 0⟩)) ys [] (fun y hy Q Z hQ => ?_) (by simp; omega) ?_ ?_
  · obtain ⟨_, r, hr, _⟩ := sort_name W hs y hy
    have ex : bIx (.dic (ws.map wk)) (.str y) = some (rectD r) := bIx_win hr
    rw [hr] at hQ
    simp only [dV, dO2, ob_some, gNm, tYesD, List.getElem?_cons_zero, List.getElem?_cons_succ, List.set_cons_zero, List.set_cons_succ, ex, keyD, if_true]
    exact hQ
  · rw [List.nil_append, eb]
    exact nodup_wk (by rw [nms_by]; exact hs.1.nodup_iff.mpr W.nd)
  · rw [List.nil_append, eb]
    exact q _ hp (by unfold SortW; rw [nms_by]; exact sorted_of hs.2)
end DL
namespace DL
open PySem PySem.Spec PyProof.Rows L2 RK
def mx (i j : Int) : Int := if j > i then j else i
def mn (i j : Int) : Int := if j < i then j else i
def ltS (a b : Str) : Bool := decide (a.cps.toList < b.cps.toList)
theorem bAdd_l {xs ys : List D} (h : xs.length + ys.length ≤ 1000000) : bAdd (.lst xs) (.lst ys) = some (.lst (xs ++ ys)) := by
  show (none : Option D).or ((none : Option D).or (if xs.length + ys.length ≤ sizeLine then some (.lst (xs ++ ys)) else none)) = _
  rw [if_pos (Nat.le_of_lt (szM h))]
  rfl
end DL
namespace DL
open PySem PySem.Spec PyProof.Rows L2 RK
inductive Sc where
  | mv (up : Bool) (ns : List Str)
  | pl (n : Str) (r : R)
  | rp (c : Int) (ss : List Sc)
def Sc.word : Sc → Str
  | .mv true _ => "raise"
  | .mv false _ => "lower"
  | .pl _ _ => "place"
  | .rp _ _ => "repeat"
mutual
def Sc.d : Sc → D
  | .mv true ns => .tup [.str "raise", .lst (ns.map D.str)]
  | .mv false ns => .tup [.str "lower", .lst (ns.map D.str)]
  | .pl n r => .tup [.str "place", .str n, rectD r]
  | .rp c ss => .tup [.str "repeat", .int c, .lst (Sc.ds ss)]
def Sc.ds : List Sc → List D
  | [] => []
  | s :: ss => s.d :: Sc.ds ss
end
theorem Sc.items (s : Sc) : ∃ xs, s.d = .tup (.str s.word :: xs) := by
  cases s with
  | mv up ns => cases up <;> exact ⟨_, by rw [Sc.d]; rfl⟩
  | pl n r => exact ⟨_, by rw [Sc.d]; rfl⟩
  | rp c ss => exact ⟨_, by rw [Sc.d]; rfl⟩
def Sc.isRp : Sc → Bool
  | .rp _ _ => true
  | _ => false
end DL
namespace DL
open PySem PySem.Spec PyProof.Rows L2 RK
inductive Dp : Nat → Sc → Prop
  | mv {n : Nat} {up : Bool} {ns : List Str} : Dp n (.mv up ns)
  | pl {n : Nat} {x : Str} {r : R} : Dp n (.pl x r)
  | rp {n : Nat} {c : Int} {ss : List Sc} : (∀ s ∈ ss, Dp n s) → Dp (n + 1) (.rp c ss)
theorem Dp.up {n : Nat} {s : Sc} (h : Dp n s) : Dp (n + 1) s := by
  induction h with
  | mv => exact .mv
  | pl => exact .pl
  | rp _ ih => exact .rp ih
mutual
def Sc.sz : Sc → Nat
  | .mv _ _ => 1
  | .pl _ _ => 1
  | .rp _ ss => 1 + Sc.szs ss
def Sc.szs : List Sc → Nat
  | [] => 0
  | s :: ss => s.sz + Sc.szs ss
end
end DL
namespace DL
open PySem PySem.Spec PyProof.Rows L2 RK
def RtM (nm ns : List Str) : Prop := ns ≠ [] ∧ ns.Nodup ∧ (∀ n ∈ ns, n ∈ nm) ∧ ns.length ≤ 1000
inductive Rt (nm : List Str) : Sc → Prop
  | mv {up : Bool} {ns : List Str} : RtM nm ns → Rt nm (.mv up ns)
  | pl {n : Str} {r : R} : n ∈ nm → r.good → Rt nm (.pl n r)
  | rp {c : Int} {ss : List Sc} : 0 ≤ c → c ≤ 1000000000000000000 → ss.length ≤ 100000 → (∀ s ∈ ss, Rt nm s) → Rt nm (.rp c ss)
end DL
namespace DL
open PySem PySem.Spec PyProof.Rows L2 RK
mutual
def Sc.fl : Sc → List Sc
  | .mv up ns => [.mv up ns]
  | .pl n r => [.pl n r]
  | .rp c ss => if c = 0 then [] else Sc.fls ss
def Sc.fls : List Sc → List Sc
  | [] => []
  | s :: ss => s.fl ++ Sc.fls ss
end
mutual
theorem fl_len : ∀ s : Sc, s.fl.length ≤ s.sz
  | .mv up ns => by rw [Sc.fl, Sc.sz]; exact Nat.le_refl _
  | .pl n r => by rw [Sc.fl, Sc.sz]; exact Nat.le_refl _
  | .rp c ss => by
    rw [Sc.fl, Sc.sz]
    have := fls_len ss
    split
    · simp
    · omega
theorem fls_len : ∀ ss : List Sc, (Sc.fls ss).length ≤ Sc.szs ss
  | [] => by rw [Sc.fls, Sc.szs]; exact Nat.le_refl _
  | s :: ss => by
    rw [Sc.fls, Sc.szs, List.length_append]
    have := fl_len s
    have := fls_len ss
    omega
end
end DL
namespace DL
open PySem PySem.Spec PyProof.Rows L2 RK
def plW (us : List Win) (n : Str) (r : R) : List Win := us.map fun w => if w.1 = n then (n, r) else w
theorem nms_pl (us : List Win) (n : Str) (r : R) : nms (plW us n r) = nms us := by
  unfold nms plW
  rw [List.map_map]
  refine List.map_congr_left fun w _ => ?_
  show (if w.1 = n then (n, r) else w).1 = w.1
  by_cases h : w.1 = n
  · rw [if_pos h]; exact h.symm
  · rw [if_neg h]
theorem pl_ok {us : List Win} (W : WOk us) {n : Str} {r : R} (g : r.good) (hn : n ∈ nms us) : WOk (plW us n r) := by
  refine ⟨by rw [nms_pl]; exact W.nd, fun w hw => ?_, fun w hw => ?_⟩
  · obtain ⟨v, hv, rfl⟩ := List.mem_map.mp hw
    by_cases h : v.1 = n
    · rw [if_pos h]; rw [← h]; exact W.nm v hv
    · rw [if_neg h]; exact W.nm v hv
  · obtain ⟨v, hv, rfl⟩ := List.mem_map.mp hw
    by_cases h : v.1 = n
    · rw [if_pos h]; exact g
    · rw [if_neg h]; exact W.gd v hv
theorem put_pl {us : List Win} {n : Str} (hn : n ∈ nms us) (r : R) : putD (us.map wk) (Sum.inr n : Key) (rectD r) = (plW us n r).map wk := by
  unfold putD plW
  have h : ((us.map wk).any fun kd => decide (kd.1 = (Sum.inr n : Key))) = true := by
    obtain ⟨w, hw, rfl⟩ := List.mem_map.mp hn
    exact List.any_eq_true.mpr ⟨wk w, List.mem_map.mpr ⟨w, hw, rfl⟩, decide_eq_true rfl⟩
  rw [if_pos h, List.map_map, List.map_map]
  refine List.map_congr_left fun w _ => ?_
  show (if (wk w).1 = (Sum.inr n : Key) then ((wk w).1, rectD r) else wk w) = wk (if w.1 = n then (n, r) else w)
  by_cases h : w.1 = n
  · rw [if_pos h, if_pos (by rw [← h]; rfl)]
    show ((Sum.inr w.1 : Key), rectD r) = _
    rw [h]
    rfl
  · rw [if_neg h, if_neg (show ¬ (wk w).1 = (Sum.inr n : Key) from fun z => h (Sum.inr.inj z))]
structure DkOk (us : List Win) : Prop where
  w : WOk us
  s : SortW us
  l1 : 1 ≤ us.length
  l2 : us.length ≤ 24
theorem DkOk.pl {us : List Win} (h : DkOk us) {n : Str} {r : R} (g : r.good) (hn : n ∈ nms us) : DkOk (plW us n r) :=
  ⟨pl_ok h.w g hn, by unfold SortW; rw [nms_pl]; exact h.s, by unfold plW; rw [List.length_map]; exact h.l1, by unfold plW; rw [List.length_map]; exact h.l2⟩
def stW (us : List Win) : Sc → List Win
  | .pl n r => plW us n r
  | _ => us
theorem DkOk.st {us : List Win} (h : DkOk us) {s : Sc} (hp : s.isRp = false ∧ Rt (nms us) s) : DkOk (stW us s) := by
  obtain ⟨h1, h2⟩ := hp
  cases h2 with
  | mv _ => exact h
  | pl hn g => exact h.pl g hn
  | rp _ _ _ _ => cases h1
end DL
namespace DL
open PySem PySem.Spec PyProof.Rows L2 RK
theorem txt_name {z : Str} (h : NameOk z) : TxtOk z := ⟨by have := h.2.1; omega, fun c hc => Nat.lt_of_le_of_lt (h.2.2 c hc).2 (by decide)⟩
theorem look_at {us : List Win} {y : Str} {q : R} (h : look us y = some q) : (y, q) ∈ us := by
  unfold look at h
  obtain ⟨w, hw, e⟩ := Option.map_eq_some_iff.mp h
  have h1 := List.find?_some hw
  have h2 := List.mem_of_find?_eq_some hw
  have h3 : w.1 = y := by simpa using h1
  rw [← h3, ← e]
  exact h2
structure WAny (ws : List Win) : Prop where
  nd : (nms ws).Nodup
  tx : ∀ w ∈ ws, TxtOk w.1
  so : ∀ w ∈ ws, PyData.strOk w.1 = true
  len : ws.length ≤ 1000
def badN (zs : List Str) : Option Str := zs.find? fun z => !decide (NameOk z)
def gdR (ws : List Win) (z : Str) : Bool := (look ws z).all fun r => decide r.good
def badR (ws : List Win) (zs : List Str) : Option Str := zs.find? fun z => !gdR ws z
def outW (ws : List Win) (zs : List Str) : Option (Str × Option Str) :=
  if 1 ≤ ws.length ∧ ws.length ≤ 24 then
    match badN zs with
    | some z => some ("BadName", some z)
    | none => match badR ws zs with
      | some z => some ("BadRectangle", some z)
      | none => none
  else some ("BadSize", none)
def erW (c : Cls) (e : Str × Option Str) : Er := match e with
  | (w, some z) => ⟨if w = "BadName" then c.BadName else c.BadRectangle, w, some ("name", .str z)⟩
  | (w, none) => ⟨c.BadSize, w, none⟩
theorem find_at {α : Type} {p : α → Bool} : ∀ (pre : List α) {a : α} {post : List α}, (∀ y ∈ pre, p y = false) → p a = true → (pre ++ a :: post).find? p = some a
  | [], a, post, _, h => by rw [List.nil_append, List.find?_cons, h]
  | x :: pre, a, post, h0, h => by
    rw [List.cons_append, List.find?_cons, h0 x List.mem_cons_self]
    exact find_at pre (fun y hy => h0 y (List.mem_cons_of_mem _ hy)) h
theorem find_no {α : Type} {p : α → Bool} {l : List α} (h : ∀ y ∈ l, p y = false) : l.find? p = none := List.find?_eq_none.mpr fun y hy => by rw [h y hy]; exact Bool.false_ne_true
theorem sortW_ex (zs : List Str) : ∃ ns, SortS zs ns := by
  have le_iff : ∀ a b : Str, (!ltCps b.cps.toList a.cps.toList) = true ↔ leS a b := fun a b => by
    rw [ltCps_eq]
    simp [leS]
  refine ⟨zs.mergeSort (fun a b => !ltCps b.cps.toList a.cps.toList), List.mergeSort_perm zs _, sortedS_of_pairwise _ ((List.pairwise_mergeSort (le := fun a b : Str => !ltCps b.cps.toList a.cps.toList) (fun a b c h1 h2 => ?_) (fun a b => ?_) zs).imp fun h => by simpa using h)⟩
  · exact (le_iff a c).mpr (leS_trans ((le_iff a b).mp h1) ((le_iff b c).mp h2))
  · rw [Bool.or_eq_true, le_iff, le_iff]
    exact leS_total a b
def spx_check_windows (c : Cls) : DSpX := fun ds P PX => ∃ ws, ds = [winD ws] ∧ WAny ws ∧ ∀ zs, SortS (nms ws) zs → match outW ws zs with | some e => PX (erW c e) | none => P .non
def dx_check_windows (c : Cls) (PX : Er → Prop) : TDS := (sSeq (sIf (dNotT (dT (dChain bLe bLe (dC (.int 1)) (dCa lenD (aCons (dV 0) aNil)) (dC (.int 24))))) (sRaise0 PX c.BadSize "BadSize") sNil)
  (sSeq (sSet 1 (dSort (dV 0)))
  (sSeq (sFor (iSeq (dV 1)) (gNm 2) (sIf (dNotT (dT (dCall sp_is_name (aCons (dV 2) aNil)))) (sRaiseS PX c.BadName "BadName" "name" (dV 2)) sNil))
  (sFor (iSeq (dV 1)) (gNm 2) (sIf (dNotT (dT (dCall sp_is_rectangle (aCons (dO2 bIx (dV 0) (dV 2)) aNil)))) (sRaiseS PX c.BadRectangle "BadRectangle" "name" (dV 2)) sNil)))))
theorem lnx_check_windows {c : Cls} {ds : List D} {P : D → Prop} {PX : Er → Prop} (h : spx_check_windows c ds P PX) : ds.length = 1 := by obtain ⟨_, rfl, _⟩ := h; rfl
theorem sort_any {ws : List Win} (W : WAny ws) {ys : List Str} (h : SortS (nms ws) ys) : ∀ y ∈ ys, TxtOk y ∧ ∃ r, look ws y = some r := fun y hy => by
  obtain ⟨w, hw, rfl⟩ := List.mem_map.mp (h.1.mem_iff.mp hy)
  exact ⟨W.tx w hw, w.2, look_mem W.nd hw⟩
theorem dec_len (ws : List Win) : (decide ((1 : Int) ≤ (ws.map wk).length) = decide (1 ≤ ws.length)) ∧ (decide (((ws.map wk).length : Int) ≤ 24) = decide (ws.length ≤ 24)) := by
  rw [List.length_map]
  exact ⟨decide_eq_decide.mpr (by omega), decide_eq_decide.mpr (by omega)⟩
theorem rdx_check_windows {c : Cls} {ds : List D} {P : D → Prop} {PX : Er → Prop} (h : spx_check_windows c ds P PX) : dx_check_windows c PX (fin false P) (st 3 ds) := by
  obtain ⟨ws, rfl, W, q⟩ := h
  obtain ⟨e1, e2⟩ := dec_len ws
  have ll := W.len
  have big : ¬ (1 ≤ ws.length ∧ ws.length ≤ 24) → PX ⟨c.BadSize, "BadSize", none⟩ := fun h => by
    obtain ⟨zs, hs⟩ := sortW_ex (nms ws)
    have q := q zs hs
    unfold outW at q
    rw [if_neg h] at q
    exact q
  simp only [dx_check_windows, dC, dV, dB, dO2, ob_some, dT, dAndT, dOrT, dNotT, dIf, dAndV, dOrV, dNotV, dChain, aNil, aCons, dTup, dLst, dCut, oNone, oSome, dRev, dNeg, dTru, dCa, dIs, dIsA, dCall, dCallK, sNil, sSeq, sNever, sBrk, sCont, sIf, sRet, sRetO, sRetE, sSet, sSetO, sDrop, sPar, sPar3, kn, enOf, owD, sAsg, gNm, gsNil, gsCons, gTp, sApp, sIns, sExt, sClr, sRev, sPut, sFrz, owAt, fin, st, iRng, iRngB, iSeq, lstD, tupD, sFor, dLc, dDc, wipeE, tYesD, dIndex, dSort, dDictZip, dMeth, dFld, dMk, List.map_cons, List.map_nil, List.length_cons, List.length_nil, List.replicate_succ, List.replicate_zero, List.cons_append, List.nil_append, List.append_nil, List.getElem?_cons_zero, List.getElem?_cons_succ, List.set_cons_zero, List.set_cons_succ, Option.bind_some, Option.map_some, Nat.reduceSub, Nat.reduceAdd, kwP, List.getD_cons_zero, List.getD_cons_succ, winD, lenD, bLe_i, e1, e2]
  by_cases h1 : 1 ≤ ws.length
  · rw [decide_eq_true h1]
    simp only
    by_cases h2 : ws.length ≤ 24
    · rw [decide_eq_true h2]
      simp only [Bool.not_true, Bool.false_eq_true, if_false]
      refine ⟨_, txtKeys_win ws, by unfold nms; rw [List.length_map]; omega, fun ys hs => .inl ?_⟩
      have q := q ys hs
      unfold outW at q
      rw [if_pos ⟨h1, h2⟩] at q
      have key := sort_any W hs
      refine loop_all D.str ys (fun pre env => (∃ e, env = [.fz (winD ws), .fz (.lst (ys.map D.str)), e]) ∧ ∀ y ∈ pre, NameOk y) ⟨⟨.no, rfl⟩, fun y h => nomatch h⟩ (fun pre a post env e h k hk => ?_) (fun env h => ?_)
      · obtain ⟨⟨e3, rfl⟩, hp⟩ := h
        have ha := key a (by rw [e]; simp)
        have la := ha.1.1
        simp only [dC, dV, dB, dO2, ob_some, dT, dAndT, dOrT, dNotT, dIf, dAndV, dOrV, dNotV, dChain, aNil, aCons, dTup, dLst, dCut, oNone, oSome, dRev, dNeg, dTru, dCa, dIs, dIsA, dCall, dCallK, sNil, sSeq, sNever, sBrk, sCont, sIf, sRet, sRetO, sRetE, sSet, sSetO, sDrop, sPar, sPar3, kn, enOf, owD, sAsg, gNm, gsNil, gsCons, gTp, sApp, sIns, sExt, sClr, sRev, sPut, sFrz, owAt, fin, st, iRng, iRngB, iSeq, lstD, tupD, sFor, dLc, dDc, wipeE, tYesD, dIndex, dSort, dDictZip, dMeth, dFld, dMk, List.map_cons, List.map_nil, List.length_cons, List.length_nil, List.replicate_succ, List.replicate_zero, List.cons_append, List.nil_append, List.append_nil, List.getElem?_cons_zero, List.getElem?_cons_succ, List.set_cons_zero, List.set_cons_succ, Option.bind_some, Option.map_some, Nat.reduceSub, Nat.reduceAdd, kwP, List.getD_cons_zero, List.getD_cons_succ]
        refine ⟨a, rfl, by omega, ?_⟩
        by_cases n : NameOk a
        · rw [decide_eq_true n]
          simp only [Bool.not_true, Bool.false_eq_true, if_false]
          refine hk _ ⟨⟨_, rfl⟩, fun y hy => ?_⟩
          rcases List.mem_append.mp hy with h | h
          · exact hp y h
          · rw [List.mem_singleton.mp h]; exact n
        · rw [decide_eq_false n]
          simp only [Bool.not_false, if_true, sRaiseS, dC, dV, dB, dO2, ob_some, dT, dAndT, dOrT, dNotT, dIf, dAndV, dOrV, dNotV, dChain, aNil, aCons, dTup, dLst, dCut, oNone, oSome, dRev, dNeg, dTru, dCa, dIs, dIsA, dCall, dCallK, sNil, sSeq, sNever, sBrk, sCont, sIf, sRet, sRetO, sRetE, sSet, sSetO, sDrop, sPar, sPar3, kn, enOf, owD, sAsg, gNm, gsNil, gsCons, gTp, sApp, sIns, sExt, sClr, sRev, sPut, sFrz, owAt, fin, st, iRng, iRngB, iSeq, lstD, tupD, sFor, dLc, dDc, wipeE, tYesD, dIndex, dSort, dDictZip, dMeth, dFld, dMk, List.map_cons, List.map_nil, List.length_cons, List.length_nil, List.replicate_succ, List.replicate_zero, List.cons_append, List.nil_append, List.append_nil, List.getElem?_cons_zero, List.getElem?_cons_succ, List.set_cons_zero, List.set_cons_succ, Option.bind_some, Option.map_some, Nat.reduceSub, Nat.reduceAdd, kwP, List.getD_cons_zero, List.getD_cons_succ]
          have f : badN ys = some a := by
            rw [e]
            exact find_at pre (fun y hy => by rw [decide_eq_true (hp y hy)]; rfl) (by rw [decide_eq_false n]; rfl)
          rw [f] at q
          exact ⟨ha.1, q⟩
      · obtain ⟨⟨e3, rfl⟩, hp⟩ := h
        have f : badN ys = none := find_no fun y hy => by rw [decide_eq_true (hp y hy)]; rfl
        rw [f] at q
        simp only [dC, dV, dB, dO2, ob_some, dT, dAndT, dOrT, dNotT, dIf, dAndV, dOrV, dNotV, dChain, aNil, aCons, dTup, dLst, dCut, oNone, oSome, dRev, dNeg, dTru, dCa, dIs, dIsA, dCall, dCallK, sNil, sSeq, sNever, sBrk, sCont, sIf, sRet, sRetO, sRetE, sSet, sSetO, sDrop, sPar, sPar3, kn, enOf, owD, sAsg, gNm, gsNil, gsCons, gTp, sApp, sIns, sExt, sClr, sRev, sPut, sFrz, owAt, fin, st, iRng, iRngB, iSeq, lstD, tupD, sFor, dLc, dDc, wipeE, tYesD, dIndex, dSort, dDictZip, dMeth, dFld, dMk, List.map_cons, List.map_nil, List.length_cons, List.length_nil, List.replicate_succ, List.replicate_zero, List.cons_append, List.nil_append, List.append_nil, List.getElem?_cons_zero, List.getElem?_cons_succ, List.set_cons_zero, List.set_cons_succ, Option.bind_some, Option.map_some, Nat.reduceSub, Nat.reduceAdd, kwP, List.getD_cons_zero, List.getD_cons_succ]
        refine .inl (loop_all D.str ys (fun pre env => (∃ e, env = [.fz (winD ws), .fz (.lst (ys.map D.str)), e]) ∧ ∀ y ∈ pre, gdR ws y = true) ⟨⟨_, rfl⟩, fun y h => nomatch h⟩ (fun pre a post env e h k hk => ?_) (fun env h => ?_))
        · obtain ⟨⟨e4, rfl⟩, hp⟩ := h
          obtain ⟨an, r, hr⟩ := key a (by rw [e]; simp)
          have ga : gdR ws a = decide r.good := by unfold gdR; rw [hr]; rfl
          simp only [dC, dV, dB, dO2, ob_some, dT, dAndT, dOrT, dNotT, dIf, dAndV, dOrV, dNotV, dChain, aNil, aCons, dTup, dLst, dCut, oNone, oSome, dRev, dNeg, dTru, dCa, dIs, dIsA, dCall, dCallK, sNil, sSeq, sNever, sBrk, sCont, sIf, sRet, sRetO, sRetE, sSet, sSetO, sDrop, sPar, sPar3, kn, enOf, owD, sAsg, gNm, gsNil, gsCons, gTp, sApp, sIns, sExt, sClr, sRev, sPut, sFrz, owAt, fin, st, iRng, iRngB, iSeq, lstD, tupD, sFor, dLc, dDc, wipeE, tYesD, dIndex, dSort, dDictZip, dMeth, dFld, dMk, List.map_cons, List.map_nil, List.length_cons, List.length_nil, List.replicate_succ, List.replicate_zero, List.cons_append, List.nil_append, List.append_nil, List.getElem?_cons_zero, List.getElem?_cons_succ, List.set_cons_zero, List.set_cons_succ, Option.bind_some, Option.map_some, Nat.reduceSub, Nat.reduceAdd, kwP, List.getD_cons_zero, List.getD_cons_succ, bIx_win hr]
          refine ⟨r, rfl, ?_⟩
          by_cases g : r.good
          · rw [decide_eq_true g]
            simp only [Bool.not_true, Bool.false_eq_true, if_false]
            refine hk _ ⟨⟨_, rfl⟩, fun y hy => ?_⟩
            rcases List.mem_append.mp hy with h | h
            · exact hp y h
            · rw [List.mem_singleton.mp h, ga, decide_eq_true g]
          · rw [decide_eq_false g]
            simp only [Bool.not_false, if_true, sRaiseS, dC, dV, dB, dO2, ob_some, dT, dAndT, dOrT, dNotT, dIf, dAndV, dOrV, dNotV, dChain, aNil, aCons, dTup, dLst, dCut, oNone, oSome, dRev, dNeg, dTru, dCa, dIs, dIsA, dCall, dCallK, sNil, sSeq, sNever, sBrk, sCont, sIf, sRet, sRetO, sRetE, sSet, sSetO, sDrop, sPar, sPar3, kn, enOf, owD, sAsg, gNm, gsNil, gsCons, gTp, sApp, sIns, sExt, sClr, sRev, sPut, sFrz, owAt, fin, st, iRng, iRngB, iSeq, lstD, tupD, sFor, dLc, dDc, wipeE, tYesD, dIndex, dSort, dDictZip, dMeth, dFld, dMk, List.map_cons, List.map_nil, List.length_cons, List.length_nil, List.replicate_succ, List.replicate_zero, List.cons_append, List.nil_append, List.append_nil, List.getElem?_cons_zero, List.getElem?_cons_succ, List.set_cons_zero, List.set_cons_succ, Option.bind_some, Option.map_some, Nat.reduceSub, Nat.reduceAdd, kwP, List.getD_cons_zero, List.getD_cons_succ]
            have f : badR ws ys = some a := by
              rw [e]
              exact find_at pre (fun y hy => by rw [hp y hy]; rfl) (by rw [ga, decide_eq_false g]; rfl)
            rw [f] at q
            exact ⟨an, q⟩
        · obtain ⟨_, hp⟩ := h
          have f : badR ws ys = none := find_no fun y hy => by rw [hp y hy]; rfl
          rw [f] at q
          exact ⟨trivial, q⟩
    · rw [decide_eq_false h2]
      simp only [Bool.not_false, if_true, sRaise0]
      exact big fun z => h2 z.2
  · rw [decide_eq_false h1]
    simp only [Bool.not_false, if_true, sRaise0]
    exact big fun z => h1 z.1
theorem WOk.any {ws : List Win} (W : WOk ws) (l : ws.length ≤ 24) : WAny ws := ⟨W.nd, fun w hw => txt_name (W.nm w hw), fun w hw => name_ok (W.nm w hw), by omega⟩
theorem out_ok {ws : List Win} (W : WOk ws) (l1 : 1 ≤ ws.length) (l2 : ws.length ≤ 24) {zs : List Str} (hs : SortS (nms ws) zs) : outW ws zs = none := by
  have k1 : badN zs = none := find_no fun y hy => by
    obtain ⟨w, hw, rfl⟩ := List.mem_map.mp (hs.1.mem_iff.mp hy)
    rw [decide_eq_true (W.nm w hw)]; rfl
  have k2 : badR ws zs = none := find_no fun y hy => by
    obtain ⟨w, hw, rfl⟩ := List.mem_map.mp (hs.1.mem_iff.mp hy)
    unfold gdR
    rw [look_mem W.nd hw]
    show (!decide w.2.good) = false
    rw [decide_eq_true (W.gd w hw)]; rfl
  unfold outW
  rw [if_pos ⟨l1, l2⟩, k1, k2]
theorem out_wok {ws : List Win} (W : WAny ws) {zs : List Str} (hs : SortS (nms ws) zs) (h : outW ws zs = none) : WOk ws ∧ 1 ≤ ws.length ∧ ws.length ≤ 24 := by
  unfold outW at h
  by_cases l : 1 ≤ ws.length ∧ ws.length ≤ 24
  · rw [if_pos l] at h
    cases hn : badN zs with
    | some z => rw [hn] at h; cases h
    | none =>
      rw [hn] at h
      cases hr : badR ws zs with
      | some z => rw [hr] at h; cases h
      | none =>
        have mem : ∀ w ∈ ws, w.1 ∈ zs := fun w hw => hs.1.mem_iff.mpr (List.mem_map.mpr ⟨w, hw, rfl⟩)
        refine ⟨⟨W.nd, fun w hw => ?_, fun w hw => ?_⟩, l⟩
        · have := List.find?_eq_none.mp hn w.1 (mem w hw)
          simpa using this
        · have := List.find?_eq_none.mp hr w.1 (mem w hw)
          unfold gdR at this
          rw [look_mem W.nd hw] at this
          simpa using this
  · rw [if_neg l] at h
    cases h
def spx_Desk___init (c : Cls) : DSpX := fun ds P PX => ∃ ws, ds = [winD ws] ∧ WAny ws ∧ ∀ zs, SortS (nms ws) zs → match outW ws zs with | some e => PX (erW c e) | none => ∀ us, us.Perm ws → SortW us → P (winD us)
def ex1_init (c : Cls) (PX : Er → Prop) : TDE := (dCallX (spx_check_windows c) PX (aCons (dV 1) aNil))
theorem lnx_Desk___init {c : Cls} {ds : List D} {P : D → Prop} {PX : Er → Prop} (h : spx_Desk___init c ds P PX) : ds.length = 1 := by obtain ⟨_, rfl, _⟩ := h; rfl
theorem rdx_Desk___init {c : Cls} {ds : List D} {P : D → Prop} {PX : Er → Prop} (h : spx_Desk___init c ds P PX) : ex1_init c PX (.no :: st 2 ds) fun _ => e2_init (.no :: st 2 ds) P := by
  obtain ⟨ws, rfl, W, q⟩ := h
  simp only [ex1_init, dC, dV, dB, dO2, ob_some, dT, dAndT, dOrT, dNotT, dIf, dAndV, dOrV, dNotV, dChain, aNil, aCons, dTup, dLst, dCut, oNone, oSome, dRev, dNeg, dTru, dCa, dIs, dIsA, dCall, dCallK, sNil, sSeq, sNever, sBrk, sCont, sIf, sRet, sRetO, sRetE, sSet, sSetO, sDrop, sPar, sPar3, kn, enOf, owD, sAsg, gNm, gsNil, gsCons, gTp, sApp, sIns, sExt, sClr, sRev, sPut, sFrz, owAt, fin, st, iRng, iRngB, iSeq, lstD, tupD, sFor, dLc, dDc, wipeE, tYesD, dIndex, dSort, dDictZip, dMeth, dFld, dMk, List.map_cons, List.map_nil, List.length_cons, List.length_nil, List.replicate_succ, List.replicate_zero, List.cons_append, List.nil_append, List.append_nil, List.getElem?_cons_zero, List.getElem?_cons_succ, List.set_cons_zero, List.set_cons_succ, Option.bind_some, Option.map_some, Nat.reduceSub, Nat.reduceAdd, kwP, List.getD_cons_zero, List.getD_cons_succ, dCallX]
  refine ⟨ws, rfl, W, fun zs hs => ?_⟩
  have q := q zs hs
  cases ho : outW ws zs with
  | some e => rw [ho] at q; exact q
  | none =>
    rw [ho] at q
    obtain ⟨Wk, l1, l2⟩ := out_wok W hs ho
    have h0 := rd_Desk___init (P := P) ⟨ws, rfl, Wk, l1, l2, q⟩
    simp only [e1_init, dC, dV, dB, dO2, ob_some, dT, dAndT, dOrT, dNotT, dIf, dAndV, dOrV, dNotV, dChain, aNil, aCons, dTup, dLst, dCut, oNone, oSome, dRev, dNeg, dTru, dCa, dIs, dIsA, dCall, dCallK, sNil, sSeq, sNever, sBrk, sCont, sIf, sRet, sRetO, sRetE, sSet, sSetO, sDrop, sPar, sPar3, kn, enOf, owD, sAsg, gNm, gsNil, gsCons, gTp, sApp, sIns, sExt, sClr, sRev, sPut, sFrz, owAt, fin, st, iRng, iRngB, iSeq, lstD, tupD, sFor, dLc, dDc, wipeE, tYesD, dIndex, dSort, dDictZip, dMeth, dFld, dMk, List.map_cons, List.map_nil, List.length_cons, List.length_nil, List.replicate_succ, List.replicate_zero, List.cons_append, List.nil_append, List.append_nil, List.getElem?_cons_zero, List.getElem?_cons_succ, List.set_cons_zero, List.set_cons_succ, Option.bind_some, Option.map_some, Nat.reduceSub, Nat.reduceAdd, kwP, List.getD_cons_zero, List.getD_cons_succ] at h0
    obtain ⟨ws2, e, _, _, _, h1⟩ := h0
    exact h1
def sp_Desk___len (c : Cls) : DSp := fun ds P => ∃ us, ds = [deskD c.Desk us] ∧ P (.int (us.length : Nat))
def d_Desk___len (c : Cls) : TDS := (sRet (dCa lenD (aCons (dFld c.Desk "windows" (dV 0)) aNil)))
theorem ln_Desk___len {c : Cls} {ds : List D} {P : D → Prop} (h : sp_Desk___len c ds P) : ds.length = 1 := by obtain ⟨_, rfl, _⟩ := h; rfl
theorem rd_Desk___len {c : Cls} {ds : List D} {P : D → Prop} (h : sp_Desk___len c ds P) : d_Desk___len c (fin false P) (st 1 ds) := by
  obtain ⟨us, rfl, q⟩ := h
  have e : lenD [winD us] = some (.int (us.length : Nat)) := by
    show some (D.int ((us.map wk).length : Nat)) = _
    rw [List.length_map]
  simp only [d_Desk___len, dC, dV, dB, dO2, ob_some, dT, dAndT, dOrT, dNotT, dIf, dAndV, dOrV, dNotV, dChain, aNil, aCons, dTup, dLst, dCut, oNone, oSome, dRev, dNeg, dTru, dCa, dIs, dIsA, dCall, dCallK, sNil, sSeq, sNever, sBrk, sCont, sIf, sRet, sRetO, sRetE, sSet, sSetO, sDrop, sPar, sPar3, kn, enOf, owD, sAsg, gNm, gsNil, gsCons, gTp, sApp, sIns, sExt, sClr, sRev, sPut, sFrz, owAt, fin, st, iRng, iRngB, iSeq, lstD, tupD, sFor, dLc, dDc, wipeE, tYesD, dIndex, dSort, dDictZip, dMeth, dFld, dMk, List.map_cons, List.map_nil, List.length_cons, List.length_nil, List.replicate_succ, List.replicate_zero, List.cons_append, List.nil_append, List.append_nil, List.getElem?_cons_zero, List.getElem?_cons_succ, List.set_cons_zero, List.set_cons_succ, Option.bind_some, Option.map_some, Nat.reduceSub, Nat.reduceAdd, kwP, List.getD_cons_zero, List.getD_cons_succ, deskD, lookW, e]
  exact ⟨trivial, q⟩
def dueD (ws : List Win) (o : Option (Str × Option Str)) : D := match o with
  | some (w, some z) => .tup [.str w, .str z]
  | some (w, none) => .tup [.str w, .non]
  | none => .tup [.str "value", .int (ws.length : Nat)]
def sp_dueW : DSp := fun ds P => ∃ ws, ds = [winD ws] ∧ WAny ws ∧ ∀ zs, SortS (nms ws) zs → P (dueD ws (outW ws zs))
def d_dueW : TDS := (sSeq (sIf (dNotT (dT (dChain bLe bLe (dC (.int 1)) (dCa lenD (aCons (dV 0) aNil)) (dC (.int 24))))) (sRet (dTup (aCons (dC (.str "BadSize")) (aCons (dC .non) aNil)))) sNil)
  (sSeq (sSet 1 (dC (.str "abcdefghijklmnopqrstuvwxyz")))
  (sSeq (sSet 3 (dLc (iSeq (dSort (dV 0))) (gNm 2) (dNotT (dAndT (dT (dChain (iI0 fun i j => .bl (decide (i < j))) (iI0 fun i j => .bl (decide (i < j))) (dC (.int 0)) (dCa lenD (aCons (dV 2) aNil)) (dC (.int 7)))) (dT (dCa allD (aCons (dLc (iSeq (dV 2)) (gNm 9) tYesD (dO2 (bIn false) (dV 9) (dV 1)) [9]) aNil))))) (dV 2) [2]))
  (sSeq (sIf (dT (dO2 (bEqN true) (dV 3) (dLst aNil))) (sRet (dTup (aCons (dC (.str "BadName")) (aCons (dO2 bIx (dV 3) (dC (.int 0))) aNil)))) sNil)
  (sSeq (sFor (iSeq (dSort (dV 0))) (gNm 2) (sSeq (sAsg (dO2 bIx (dV 0) (dV 2)) (gTp 4 (gsCons (gNm 4) (gsCons (gNm 5) (gsCons (gNm 6) (gsCons (gNm 7) gsNil))))))
  (sIf (dOrT (dNotT (dT (dO2 bLt (dV 4) (dV 6)))) (dOrT (dNotT (dT (dO2 bLt (dV 5) (dV 7)))) (dT (dO2 bGt (dMaxL (dLc (iSeq (dO2 bIx (dV 0) (dV 2))) (gNm 8) tYesD (dCa absD (aCons (dV 8) aNil)) [8])) (dO2 bPow (dC (.int 10)) (dC (.int 9))))))) (sRet (dTup (aCons (dC (.str "BadRectangle")) (aCons (dV 2) aNil)))) sNil)))
  (sRet (dTup (aCons (dC (.str "value")) (aCons (dCa lenD (aCons (dV 0) aNil)) aNil)))))))))
theorem ln_dueW {ds : List D} {P : D → Prop} (h : sp_dueW ds P) : ds.length = 1 := by obtain ⟨_, rfl, _⟩ := h; rfl
theorem ne_nilS {ws : List Str} (h : ∀ w ∈ ws, PyData.strOk w = true) {Q : D → Prop} (q : Q (.bl (!decide (ws = [])))) : ob (bEqN true (.lst (ws.map D.str)) (.lst [])) Q := by
  refine beq_ob (n := 2) (by decide) ?_ rfl (fun e => ?_) fun e => ?_
  · show (ws.map D.str).all (sh 1) = true
    rw [List.all_eq_true]
    intro x hx
    obtain ⟨z, hz, rfl⟩ := List.mem_map.mp hx
    exact h z hz
  · have : ws = [] := by
      injection e with e
      exact List.map_eq_nil_iff.mp e
    rw [decide_eq_true this] at q
    exact q
  · have : ws ≠ [] := fun z => e (by rw [z]; rfl)
    rw [decide_eq_false this] at q
    exact q
theorem head_find {α : Type} (p : α → Bool) : ∀ l : List α, (l.filter p).head? = l.find? p
  | [] => rfl
  | x :: l => by
    rw [List.filter_cons, List.find?_cons]
    cases p x with
    | true => rfl
    | false => exact head_find p l
theorem due_rect {r : R} {m : Int} (hm : m ∈ [(if r.l < 0 then -r.l else r.l), if r.t < 0 then -r.t else r.t, if r.r < 0 then -r.r else r.r, if r.b < 0 then -r.b else r.b]) (hx : ∀ y ∈ [(if r.l < 0 then -r.l else r.l), if r.t < 0 then -r.t else r.t, if r.r < 0 then -r.r else r.r, if r.b < 0 then -r.b else r.b], y ≤ m) :
    (!decide r.good) = (!decide (r.l < r.r) || (!decide (r.t < r.b) || decide (m > 1000000000))) := by
  simp only [List.mem_cons, List.not_mem_nil, or_false] at hm
  have b1 := hx _ (List.mem_cons_self)
  have b2 := hx _ (List.mem_cons_of_mem _ List.mem_cons_self)
  have b3 := hx _ (List.mem_cons_of_mem _ (List.mem_cons_of_mem _ List.mem_cons_self))
  have b4 := hx _ (List.mem_cons_of_mem _ (List.mem_cons_of_mem _ (List.mem_cons_of_mem _ List.mem_cons_self)))
  by_cases hg : r.good
  · have hg0 := hg
    obtain ⟨g1, g2, g3, g4, g5, g6, g7, g8, g9, g10⟩ := hg
    have hm9 : ¬ m > 1000000000 := by
      rcases hm with e | e | e | e <;> (rw [e]; split <;> omega)
    rw [decide_eq_true hg0, decide_eq_true g9, decide_eq_true g10, decide_eq_false hm9]
    rfl
  · rw [decide_eq_false hg]
    by_cases h1 : r.l < r.r
    · by_cases h2 : r.t < r.b
      · have h3 : m > 1000000000 := by
          refine Decidable.byContradiction fun h3 => hg ?_
          refine ⟨?_, ?_, ?_, ?_, ?_, ?_, ?_, ?_, h1, h2⟩ <;> (split at b1 <;> split at b2 <;> split at b3 <;> split at b4 <;> omega)
        rw [decide_eq_true h3]
        simp
      · rw [decide_eq_false h2]
        simp
    · rw [decide_eq_false h1]
      simp
theorem rd_dueW {ds : List D} {P : D → Prop} (h : sp_dueW ds P) : d_dueW (fin false P) (st 10 ds) := by
  obtain ⟨ws, rfl, W, q⟩ := h
  obtain ⟨e1, e2⟩ := dec_len ws
  have ll := W.len
  have big : ¬ (1 ≤ ws.length ∧ ws.length ≤ 24) → P (.tup [.str "BadSize", .non]) := fun h => by
    obtain ⟨zs, hs⟩ := sortW_ex (nms ws)
    have q := q zs hs
    unfold outW at q
    rw [if_neg h] at q
    exact q
  have ep : bPow (.int 10) (.int 9) = some (.int 1000000000) := by rfl
  have eL : lenD [.dic (ws.map wk)] = some (.int (ws.length : Nat)) := by
    show some (D.int ((ws.map wk).length : Nat)) = _
    rw [List.length_map]
  rw [List.length_map] at e1 e2
  have ss : ∀ z : Str, z.length ≤ 1000 → lenD [.str z] = some (.int z.length) := fun z h => by
    show (if z.length ≤ sizeLine then _ else _) = _
    rw [if_pos (by rw [sizeLine_eq]; omega)]
  simp only [d_dueW, dC, dV, dB, dO2, ob_some, dT, dAndT, dOrT, dNotT, dIf, dAndV, dOrV, dNotV, dChain, aNil, aCons, dTup, dLst, dCut, oNone, oSome, dRev, dNeg, dTru, dCa, dIs, dIsA, dCall, dCallK, sNil, sSeq, sNever, sBrk, sCont, sIf, sRet, sRetO, sRetE, sSet, sSetO, sDrop, sPar, sPar3, kn, enOf, owD, sAsg, gNm, gsNil, gsCons, gTp, sApp, sIns, sExt, sClr, sRev, sPut, sFrz, owAt, fin, st, iRng, iRngB, iSeq, lstD, tupD, sFor, dLc, dDc, wipeE, tYesD, dIndex, dSort, dDictZip, dMeth, dFld, dMk, List.map_cons, List.map_nil, List.length_cons, List.length_nil, List.replicate_succ, List.replicate_zero, List.cons_append, List.nil_append, List.append_nil, List.getElem?_cons_zero, List.getElem?_cons_succ, List.set_cons_zero, List.set_cons_succ, Option.bind_some, Option.map_some, Nat.reduceSub, Nat.reduceAdd, kwP, List.getD_cons_zero, List.getD_cons_succ, winD, eL, bLe_i, e1, e2, iLt_i, ep, dMaxL]
  by_cases h1 : 1 ≤ ws.length
  · rw [decide_eq_true h1]
    simp only
    by_cases h2 : ws.length ≤ 24
    · rw [decide_eq_true h2]
      simp only [Bool.not_true, Bool.false_eq_true, if_false]
      refine .inl ⟨_, txtKeys_win ws, by unfold nms; rw [List.length_map]; omega, fun ys hs => ?_⟩
      have q := q ys hs
      unfold outW at q
      rw [if_pos ⟨h1, h2⟩] at q
      have key := sort_any W hs
      have sok : ∀ y ∈ ys, PyData.strOk y = true := fun y hy => by
        obtain ⟨w, hw, rfl⟩ := List.mem_map.mp (hs.1.mem_iff.mp hy)
        exact W.so w hw
      have ly : ys.length ≤ 24 := by rw [hs.1.length_eq]; unfold nms; rw [List.length_map]; exact h2
      refine comp_filter D.str D.str (fun z => !decide (NameOk z)) ys [] (fun z hz Q Z h1 h0 => ?_) (by simp only [List.length_nil]; omega) ?_
      · have lz := (key z hz).1.1
        have e : decide (NameOk z) = (decide ((0 : Int) < z.length) && (decide ((z.length : Int) < 7) && z.cps.toList.all fun c => decide (Low c))) := by
          rw [Bool.eq_iff_iff, decide_eq_true_iff, Bool.and_eq_true, Bool.and_eq_true, decide_eq_true_iff, decide_eq_true_iff, List.all_eq_true]
          constructor
          · rintro ⟨g1, g2, g3⟩
            exact ⟨by omega, by omega, fun c hc => decide_eq_true (g3 c hc)⟩
          · rintro ⟨g1, g2, g3⟩
            exact ⟨by omega, by omega, fun c hc => of_decide_eq_true (g3 c hc)⟩
        rw [e] at h1 h0
        simp only [dC, dV, dB, dO2, ob_some, dT, dAndT, dOrT, dNotT, dIf, dAndV, dOrV, dNotV, dChain, aNil, aCons, dTup, dLst, dCut, oNone, oSome, dRev, dNeg, dTru, dCa, dIs, dIsA, dCall, dCallK, sNil, sSeq, sNever, sBrk, sCont, sIf, sRet, sRetO, sRetE, sSet, sSetO, sDrop, sPar, sPar3, kn, enOf, owD, sAsg, gNm, gsNil, gsCons, gTp, sApp, sIns, sExt, sClr, sRev, sPut, sFrz, owAt, fin, st, iRng, iRngB, iSeq, lstD, tupD, sFor, dLc, dDc, wipeE, tYesD, dIndex, dSort, dDictZip, dMeth, dFld, dMk, List.map_cons, List.map_nil, List.length_cons, List.length_nil, List.replicate_succ, List.replicate_zero, List.cons_append, List.nil_append, List.append_nil, List.getElem?_cons_zero, List.getElem?_cons_succ, List.set_cons_zero, List.set_cons_succ, Option.bind_some, Option.map_some, Nat.reduceSub, Nat.reduceAdd, kwP, List.getD_cons_zero, List.getD_cons_succ, ss z lz, iLt_i]
        cases c1 : decide ((0 : Int) < z.length) with
        | false =>
          rw [c1] at h1
          simp only [Bool.false_and, Bool.not_false] at h1
          simpa using h1
        | true =>
          simp only
          rw [c1] at h1 h0
          cases c2 : decide ((z.length : Int) < 7) with
          | false =>
            rw [c2] at h1
            simp only [Bool.true_and, Bool.false_and, Bool.not_false] at h1
            simpa using h1
          | true =>
            rw [c2] at h1 h0
            simp only [Bool.true_and] at h1 h0
            simp only [if_true]
            refine .inr (.inr ?_)
            show dComp _ _ _ _ _ (z.cps.toList.map fun c => D.str ⟨#[c]⟩) []
            refine comp_map (fun c : Nat => D.str ⟨#[c]⟩) (fun c => D.bl (decide (Low c))) z.cps.toList [] (fun c hc Q Z hQ => ?_) (by rw [← str_len]; simp; omega) ?_
            · have e2 : bIn false (.str ⟨#[c]⟩) (.str "abcdefghijklmnopqrstuvwxyz") = some (.bl (decide (Low c))) := by
                show (none : Option D).or ((none : Option D).or ((some (D.bl (false ^^ decide (c ∈ abc.cps.toList)))).or _)) = _
                rw [Bool.false_xor, decide_eq_decide.mpr (abc_mem (c := c))]
                rfl
              simp only [dC, dV, dB, dO2, ob_some, dT, dAndT, dOrT, dNotT, dIf, dAndV, dOrV, dNotV, dChain, aNil, aCons, dTup, dLst, dCut, oNone, oSome, dRev, dNeg, dTru, dCa, dIs, dIsA, dCall, dCallK, sNil, sSeq, sNever, sBrk, sCont, sIf, sRet, sRetO, sRetE, sSet, sSetO, sDrop, sPar, sPar3, kn, enOf, owD, sAsg, gNm, gsNil, gsCons, gTp, sApp, sIns, sExt, sClr, sRev, sPut, sFrz, owAt, fin, st, iRng, iRngB, iSeq, lstD, tupD, sFor, dLc, dDc, wipeE, tYesD, dIndex, dSort, dDictZip, dMeth, dFld, dMk, List.map_cons, List.map_nil, List.length_cons, List.length_nil, List.replicate_succ, List.replicate_zero, List.cons_append, List.nil_append, List.append_nil, List.getElem?_cons_zero, List.getElem?_cons_succ, List.set_cons_zero, List.set_cons_succ, Option.bind_some, Option.map_some, Nat.reduceSub, Nat.reduceAdd, kwP, List.getD_cons_zero, List.getD_cons_succ, e2, if_true]
              exact hQ
            · rw [List.nil_append, allD_f, ob_some]
              cases c3 : z.cps.toList.all fun c => decide (Low c) with
              | true => rw [c3] at h0; simpa using h0
              | false => rw [c3] at h1; simpa using h1
      · rw [List.nil_append]
        refine ⟨Nat.zero_le _, ?_⟩
        refine ne_nilS (fun w hw => sok w (List.mem_filter.mp hw).1) ?_
        have hf := head_find (fun z => !decide (NameOk z)) ys
        have hd : badN ys = ys.find? fun z => !decide (NameOk z) := rfl
        rw [← hd] at hf
        generalize ys.filter (fun z => !decide (NameOk z)) = bs at hf ⊢
        cases bs with
        | cons b bs =>
          have hf : some b = badN ys := hf
          rw [← hf] at q
          simp only [show decide (b :: bs = []) = false from rfl, Bool.not_false, if_true, List.map_cons]
          show ob (bIx (.lst (.str b :: bs.map D.str)) (.int 0)) _
          rw [show bIx (.lst (.str b :: bs.map D.str)) (.int 0) = some (.str b) from bIx_l (j := 0) rfl, ob_some]
          exact ⟨by decide, q⟩
        | nil =>
          have hf : none = badN ys := hf
          rw [← hf] at q
          simp only [show decide (([] : List Str) = []) = true from rfl, Bool.not_true, Bool.false_eq_true, if_false]
          refine .inl ⟨_, txtKeys_win ws, by unfold nms; rw [List.length_map]; omega, fun ys2 hs2 => ?_⟩
          have ey : ys2 = ys := sorted_one (hs2.1.trans hs.1.symm) (sorted_of hs2.2) (sorted_of hs.2)
          subst ey
          refine loop_all D.str ys2 (fun pre env => (∃ e2 e3 e4 e5 e6 e7 e8 e9, env = [.fz (winD ws), .fz (.str "abcdefghijklmnopqrstuvwxyz"), e2, e3, e4, e5, e6, e7, e8, e9]) ∧ ∀ y ∈ pre, gdR ws y = true) ⟨⟨_, _, _, _, _, _, _, _, rfl⟩, fun y h => nomatch h⟩ (fun pre a post env e h k hk => ?_) (fun env h => ?_)
          · obtain ⟨⟨e3, e4, e5, e6, e7, e8, e9, e10, rfl⟩, hp⟩ := h
            obtain ⟨an, r, hr⟩ := key a (by rw [e]; simp)
            have ga : gdR ws a = decide r.good := by unfold gdR; rw [hr]; rfl
            have a1 : ∀ i : Int, absD [.int i] = some (.int (if i < 0 then -i else i)) := fun _ => rfl
            simp only [dC, dV, dB, dO2, ob_some, dT, dAndT, dOrT, dNotT, dIf, dAndV, dOrV, dNotV, dChain, aNil, aCons, dTup, dLst, dCut, oNone, oSome, dRev, dNeg, dTru, dCa, dIs, dIsA, dCall, dCallK, sNil, sSeq, sNever, sBrk, sCont, sIf, sRet, sRetO, sRetE, sSet, sSetO, sDrop, sPar, sPar3, kn, enOf, owD, sAsg, gNm, gsNil, gsCons, gTp, sApp, sIns, sExt, sClr, sRev, sPut, sFrz, owAt, fin, st, iRng, iRngB, iSeq, lstD, tupD, sFor, dLc, dDc, wipeE, tYesD, dIndex, dSort, dDictZip, dMeth, dFld, dMk, List.map_cons, List.map_nil, List.length_cons, List.length_nil, List.replicate_succ, List.replicate_zero, List.cons_append, List.nil_append, List.append_nil, List.getElem?_cons_zero, List.getElem?_cons_succ, List.set_cons_zero, List.set_cons_succ, Option.bind_some, Option.map_some, Nat.reduceSub, Nat.reduceAdd, kwP, List.getD_cons_zero, List.getD_cons_succ, bIx_win hr, rectD, bLt_i]
            have stop : (!decide r.good) = true → P (.tup [.str "BadRectangle", .str a]) := fun g => by
              have f : badR ws ys2 = some a := by
                rw [e]
                exact find_at pre (fun y hy => by rw [hp y hy]; rfl) (by rw [ga]; exact g)
              rw [f] at q
              exact q
            have go : (!decide r.good) = false → ∀ y ∈ pre ++ [a], gdR ws y = true := fun g y hy => by
              rcases List.mem_append.mp hy with h | h
              · exact hp y h
              · rw [List.mem_singleton.mp h, ga]
                simpa using g
            refine ⟨trivial, trivial, ?_⟩
            have stop2 : ¬ r.good → 2 ≤ sizeLine ∧ P (.tup [.str "BadRectangle", .str a]) := fun g => ⟨by decide, stop (by rw [decide_eq_false g]; rfl)⟩
            by_cases c1 : r.l < r.r
            · rw [decide_eq_true c1]
              by_cases c2 : r.t < r.b
              · rw [decide_eq_true c2]
                simp only [Bool.not_true, Bool.false_eq_true, if_false, dMaxL, dC, dV, dB, dO2, ob_some, dT, dAndT, dOrT, dNotT, dIf, dAndV, dOrV, dNotV, dChain, aNil, aCons, dTup, dLst, dCut, oNone, oSome, dRev, dNeg, dTru, dCa, dIs, dIsA, dCall, dCallK, sNil, sSeq, sNever, sBrk, sCont, sIf, sRet, sRetO, sRetE, sSet, sSetO, sDrop, sPar, sPar3, kn, enOf, owD, sAsg, gNm, gsNil, gsCons, gTp, sApp, sIns, sExt, sClr, sRev, sPut, sFrz, owAt, fin, st, iRng, iRngB, iSeq, lstD, tupD, sFor, dLc, dDc, wipeE, tYesD, dIndex, dSort, dDictZip, dMeth, dFld, dMk, List.map_cons, List.map_nil, List.length_cons, List.length_nil, List.replicate_succ, List.replicate_zero, List.cons_append, List.nil_append, List.append_nil, List.getElem?_cons_zero, List.getElem?_cons_succ, List.set_cons_zero, List.set_cons_succ, Option.bind_some, Option.map_some, Nat.reduceSub, Nat.reduceAdd, kwP, List.getD_cons_zero, List.getD_cons_succ, bIx_win hr, rectD]
                refine .inr (.inl ?_)
                refine comp_map (fun i : Int => D.int i) (fun i => D.int (if i < 0 then -i else i)) [r.l, r.t, r.r, r.b] [] (fun i hi Q Z hQ => ?_) (by simp) ?_
                · simp only [dC, dV, dB, dO2, ob_some, dT, dAndT, dOrT, dNotT, dIf, dAndV, dOrV, dNotV, dChain, aNil, aCons, dTup, dLst, dCut, oNone, oSome, dRev, dNeg, dTru, dCa, dIs, dIsA, dCall, dCallK, sNil, sSeq, sNever, sBrk, sCont, sIf, sRet, sRetO, sRetE, sSet, sSetO, sDrop, sPar, sPar3, kn, enOf, owD, sAsg, gNm, gsNil, gsCons, gTp, sApp, sIns, sExt, sClr, sRev, sPut, sFrz, owAt, fin, st, iRng, iRngB, iSeq, lstD, tupD, sFor, dLc, dDc, wipeE, tYesD, dIndex, dSort, dDictZip, dMeth, dFld, dMk, List.map_cons, List.map_nil, List.length_cons, List.length_nil, List.replicate_succ, List.replicate_zero, List.cons_append, List.nil_append, List.append_nil, List.getElem?_cons_zero, List.getElem?_cons_succ, List.set_cons_zero, List.set_cons_succ, Option.bind_some, Option.map_some, Nat.reduceSub, Nat.reduceAdd, kwP, List.getD_cons_zero, List.getD_cons_succ, a1, if_true]
                  exact hQ
                · refine ⟨[if r.l < 0 then -r.l else r.l, if r.t < 0 then -r.t else r.t, if r.r < 0 then -r.r else r.r, if r.b < 0 then -r.b else r.b], rfl, by simp, fun m hm hmx => ?_⟩
                  have gt : ∀ a b : Int, bGt (.int a) (.int b) = some (.bl (decide (a > b))) := fun _ _ => rfl
                  have dr := due_rect hm hmx
                  rw [decide_eq_true c1, decide_eq_true c2] at dr
                  simp only [Bool.not_true, Bool.false_or] at dr
                  rw [ep, ob_some, gt, ob_some]
                  cases c3 : decide (m > 1000000000) with
                  | true => exact ⟨by decide, stop (by rw [dr]; exact c3)⟩
                  | false => exact hk _ ⟨⟨_, _, _, _, _, _, _, _, rfl⟩, go (by rw [dr]; exact c3)⟩
              · rw [decide_eq_false c2]
                simp only [Bool.not_true, Bool.not_false, Bool.false_eq_true, if_false, if_true]
                exact stop2 fun g => c2 g.2.2.2.2.2.2.2.2.2
            · rw [decide_eq_false c1]
              simp only [Bool.not_false, if_true]
              exact stop2 fun g => c1 g.2.2.2.2.2.2.2.2.1
          · obtain ⟨⟨e3, e4, e5, e6, e7, e8, e9, e10, rfl⟩, hp⟩ := h
            have f : badR ws ys2 = none := find_no fun y hy => by rw [hp y hy]; rfl
            rw [f] at q
            simp only [dC, dV, dB, dO2, ob_some, dT, dAndT, dOrT, dNotT, dIf, dAndV, dOrV, dNotV, dChain, aNil, aCons, dTup, dLst, dCut, oNone, oSome, dRev, dNeg, dTru, dCa, dIs, dIsA, dCall, dCallK, sNil, sSeq, sNever, sBrk, sCont, sIf, sRet, sRetO, sRetE, sSet, sSetO, sDrop, sPar, sPar3, kn, enOf, owD, sAsg, gNm, gsNil, gsCons, gTp, sApp, sIns, sExt, sClr, sRev, sPut, sFrz, owAt, fin, st, iRng, iRngB, iSeq, lstD, tupD, sFor, dLc, dDc, wipeE, tYesD, dIndex, dSort, dDictZip, dMeth, dFld, dMk, List.map_cons, List.map_nil, List.length_cons, List.length_nil, List.replicate_succ, List.replicate_zero, List.cons_append, List.nil_append, List.append_nil, List.getElem?_cons_zero, List.getElem?_cons_succ, List.set_cons_zero, List.set_cons_succ, Option.bind_some, Option.map_some, Nat.reduceSub, Nat.reduceAdd, kwP, List.getD_cons_zero, List.getD_cons_succ, winD, eL]
            exact ⟨by decide, q⟩
    · rw [decide_eq_false h2]
      simp only [Bool.not_false, if_true]
      exact ⟨by decide, big fun z => h2 z.2⟩
  · rw [decide_eq_false h1]
    simp only [Bool.not_false, if_true]
    exact ⟨by decide, big fun z => h1 z.1⟩
end DL
namespace DL
open PySem PySem.Spec PyProof.Rows L2 RK
structure RW (ws : List Win) (n : Nat) : Prop where
  nd : (nms ws).Nodup
  tx : ∀ w ∈ ws, TxtOk w.1 ∧ PyData.strOk w.1 = true
  l1 : 1 ≤ ws.length
  l2 : ws.length ≤ n
theorem RW.any {ws : List Win} {n : Nat} (W : RW ws n) (h : n ≤ 1000) : WAny ws := ⟨W.nd, fun w hw => (W.tx w hw).1, fun w hw => (W.tx w hw).2, Nat.le_trans W.l2 h⟩
def pw (ws : List Win) (z : Str) (r : R) : List Win := if z ∈ nms ws then plW ws z r else ws ++ [(z, r)]
theorem put_pw (ws : List Win) (z : Str) (r : R) : putD (ws.map wk) (Sum.inr z : Key) (rectD r) = (pw ws z r).map wk := by
  unfold pw
  by_cases h : z ∈ nms ws
  · rw [if_pos h, put_pl h]
  · rw [if_neg h]
    unfold putD
    have e : ((ws.map wk).any fun kv => decide (kv.1 = (Sum.inr z : Key))) = false := by
      rw [List.any_eq_false]
      intro kv hkv
      obtain ⟨w, hw, rfl⟩ := List.mem_map.mp hkv
      have : w.1 ≠ z := fun e => h (List.mem_map.mpr ⟨w, hw, e⟩)
      simp [wk, this]
    rw [e, if_neg Bool.false_ne_true, List.map_append]
    rfl
theorem RW.pw {ws : List Win} {n : Nat} (W : RW ws n) {z : Str} (hz : TxtOk z ∧ PyData.strOk z = true) (r : R) : RW (DL.pw ws z r) (n + 1) := by
  unfold DL.pw
  by_cases h : z ∈ nms ws
  · rw [if_pos h]
    have l : (plW ws z r).length = ws.length := List.length_map _
    refine ⟨by rw [nms_pl]; exact W.nd, fun w hw => ?_, by rw [l]; exact W.l1, by rw [l]; have := W.l2; omega⟩
    obtain ⟨v, hv, rfl⟩ := List.mem_map.mp hw
    by_cases e : v.1 = z
    · rw [if_pos e]; exact hz
    · rw [if_neg e]; exact W.tx v hv
  · rw [if_neg h]
    have l : (ws ++ [(z, r)]).length = ws.length + 1 := by rw [List.length_append]; rfl
    refine ⟨?_, fun w hw => ?_, by rw [l]; omega, by rw [l]; have := W.l2; omega⟩
    · unfold nms
      rw [List.map_append]
      refine List.nodup_append.mpr ⟨W.nd, by simp, fun a ha b hb e => ?_⟩
      simp only [List.map_cons, List.map_nil, List.mem_singleton] at hb
      exact h (by rw [← hb, ← e]; exact ha)
    · rcases List.mem_append.mp hw with h1 | h1
      · exact W.tx w h1
      · rw [List.mem_singleton.mp h1]; exact hz
theorem RW.len {ws : List Win} {n : Nat} (W : RW ws n) (hn : n ≤ 1000) : (ws.map wk).length < sizeLine := by rw [List.length_map, sizeLine_eq]; have := W.l2; omega
def d_s3d : TDS := (sSeq (sSet 11 (dLst (aCons (dTup (aCons (dV 7) (aCons (dV 8) (aCons (dV 7) (aCons (dV 10) aNil))))) (aCons (dTup (aCons (dV 7) (aCons (dV 8) (aCons (dV 9) (aCons (dO2 bAdd (dO2 bPow (dC (.int 10)) (dC (.int 9))) (dC (.int 1))) aNil))))) (aCons (dTup (aCons (dV 7) (aCons (dV 10) (aCons (dV 9) (aCons (dV 8) aNil))))) (aCons (dO2 bIx (dB 3) (dV 6)) aNil))))))
  (sDput 3 (dCall sp_of (aCons (dV 1) (aCons (dO2 bAdd (dV 11) (dO2 bMul (dLst (aCons (dO2 bIx (dB 3) (dV 6)) aNil)) (dC (.int 3)))) aNil))) (dV 6)))
def d_s3c : TDS := (sSeq (sAsg (dO2 bIx (dB 3) (dV 6)) (gTp 4 (gsCons (gNm 7) (gsCons (gNm 8) (gsCons (gNm 9) (gsCons (gNm 10) gsNil))))))
  d_s3d)
def d_s3b : TDS := (sSeq (sSet 6 (dCall sp_of (aCons (dV 1) (aCons (dSort (dB 3)) aNil))))
  d_s3c)
def d_step3 : TDS := (sSeq (sSet 5 (dCall sp_of (aCons (dV 1) (aCons (dLst (aCons (dC (.str "")) (aCons (dC (.str "A")) (aCons (dC (.str "toolong")) (aCons (dC (.str "a b")) (aCons (dC (.str "a1")) (aCons (dC (.str "zz")) (aCons (dC (.str "q")) aNil)))))))) aNil))))
  (sSeq (sDput 3 (dCall sp_rectangle (aCons (dV 1) (aCons (dC (.int 1)) aNil))) (dV 5))
  d_s3b))
def d_e3c (c : Cls) : TDS := (sIf (dOrT (dNotT (dT (dCall (sp_like 7) (aCons (dLendT 15 (dTry [(c.BadName, "BadName", some "name"), (c.BadRectangle, "BadRectangle", some "name"), (c.BadSize, "BadSize", none), (c.Unknown, "Unknown", some "name"), (c.NothingLeft, "NothingLeft", none)] (fun PX => (dLenO c.Desk (sp_Desk___len c) (dMkX c.Desk "windows" (spx_Desk___init c) PX (aCons (dV 15) aNil)))))) (aCons (dLendT 3 (dCall sp_dueW (aCons (dV 3) aNil))) aNil))))) (dT (dO2 (bEqN true) (dItemsO 15) (dV 12)))) (sRet (dC (.bl false))) sNil)
def d_end3 (c : Cls) : TDS := (sSeq (sSetO 15 (dCa dictPD (aCons (dCall sp_mixed (aCons (dV 1) (aCons (dItemsO 3) aNil))) aNil)))
  (sSeq (sSet 12 (dItemsO 15))
  (d_e3c c)))
def d_body3 (c : Cls) : TDS := (sSeq (sSetO 3 (dCall sp_windows (aCons (dV 1) (aCons (dC (.int 1)) (aCons (dC (.int 5)) aNil)))))
  (sSeq (sFor (iRng (aCons (dCall sp_pull (aCons (dV 1) (aCons (dC (.int 4)) aNil))) aNil)) (gNm 4) d_step3)
  (d_end3 c)))
def d_tail3 (c : Cls) : TDS := (sGr 14 13 (dLcN (iSeq (dLst (aCons (dC (.int 24)) (aCons (dC (.int 25)) aNil)))) (gNm 16) (dCa dictPD (aCons (dLc (iSeq (dCall sp_names (aCons (dV 1) (aCons (dV 16) aNil)))) (gNm 17) tYesD (dTup (aCons (dV 17) (aCons (dTup (aCons (dC (.int 0)) (aCons (dC (.int 0)) (aCons (dC (.int 1)) (aCons (dC (.int 1)) aNil))))) aNil))) [17]) aNil)) [16]) (dLst (aCons (dTry [(c.BadName, "BadName", some "name"), (c.BadRectangle, "BadRectangle", some "name"), (c.BadSize, "BadSize", none), (c.Unknown, "Unknown", some "name"), (c.NothingLeft, "NothingLeft", none)] (fun PX => (dLenO c.Desk (sp_Desk___len c) (dMkX c.Desk "windows" (spx_Desk___init c) PX (aCons (dO2 bIx (dV 14) (dC (.int 0))) aNil))))) (aCons (dTry [(c.BadName, "BadName", some "name"), (c.BadRectangle, "BadRectangle", some "name"), (c.BadSize, "BadSize", none), (c.Unknown, "Unknown", some "name"), (c.NothingLeft, "NothingLeft", none)] (fun PX => (dMkX c.Desk "windows" (spx_Desk___init c) PX (aCons (dO2 bIx (dV 14) (dC (.int 1))) aNil)))) (aCons (dTry [(c.BadName, "BadName", some "name"), (c.BadRectangle, "BadRectangle", some "name"), (c.BadSize, "BadSize", none), (c.Unknown, "Unknown", some "name"), (c.NothingLeft, "NothingLeft", none)] (fun PX => (dMkX c.Desk "windows" (spx_Desk___init c) PX (aCons dEmp aNil)))) aNil)))) (dTup (aCons (dC (.int 1)) (aCons (dC (.int 0)) (aCons (dC (.int 0)) (aCons (dC (.int 0)) aNil))))) "A"
  (sSeq (sApp 13 (dTry [(c.BadName, "BadName", some "name"), (c.BadRectangle, "BadRectangle", some "name"), (c.BadSize, "BadSize", none), (c.Unknown, "Unknown", some "name"), (c.NothingLeft, "NothingLeft", none)] (fun PX => (dMkX c.Desk "windows" (spx_Desk___init c) PX (aCons (dO2 bIx (dV 14) (dC (.int 1))) aNil)))))
  (sRet (dAndV (dO2 (bEqN false) (dB 13) (dO2 bAdd (dLst (aCons (dTup (aCons (dC (.str "value")) (aCons (dC (.int 24)) aNil))) aNil)) (dO2 bMul (dLst (aCons (dTup (aCons (dC (.str "BadSize")) (aCons (dC .non) aNil))) aNil)) (dC (.int 3))))) (dO2 (bEqN false) (dC (.int 24)) (dC (.int 24)))))))
def d_law (c : Cls) : TDS := (sSeq (sFor (iRng (aCons (dC (.int 6)) aNil)) (gNm 2) (d_body3 c))
  (d_tail3 c))
theorem odds {x : D} (h : x ∈ [D.str "", .str "A", .str "toolong", .str "a b", .str "a1", .str "zz", .str "q"]) : ∃ z : Str, x = .str z ∧ TxtOk z ∧ PyData.strOk z = true := by
  simp only [List.mem_cons, List.not_mem_nil, or_false] at h
  rcases h with rfl | rfl | rfl | rfl | rfl | rfl | rfl <;> exact ⟨_, rfl, ⟨by decide +kernel, by decide +kernel⟩, by decide +kernel⟩
abbrev ev3 (e2 e3 e4 e5 e6 e7 e8 e9 e10 e11 e12 e13 e14 e15 e16 e17 : En) : De := [.no, .fz .bag, e2, e3, e4, e5, e6, e7, e8, e9, e10, e11, e12, e13, e14, e15, e16, e17]
theorem rd_s3d {PP : DEnds} {ws : List Win} {n : Nat} {a : Str} {r : R} {x y z w : Int} {e2 e4 e5 e11 e12 e13 e14 e15 e16 e17 : En} (W : RW ws n) (hn : n ≤ 100) (ha : a ∈ nms ws)
    (hk : ∀ ws' e11, RW ws' n → PP.nx (ev3 e2 (.od (ws'.map wk)) e4 e5 (.fz (.str a)) (.fz (.int x)) (.fz (.int y)) (.fz (.int z)) (.fz (.int w)) e11 e12 e13 e14 e15 e16 e17)) :
    d_s3d PP (ev3 e2 (.od (ws.map wk)) e4 e5 (.fz (.str a)) (.fz (.int x)) (.fz (.int y)) (.fz (.int z)) (.fz (.int w)) e11 e12 e13 e14 e15 e16 e17) := by
  have ep : bPow (.int 10) (.int 9) = some (.int 1000000000) := by rfl
  have ea : bAdd (.int 1000000000) (.int 1) = some (.int 1000000001) := by rfl
  obtain ⟨v, hv, e⟩ := List.mem_map.mp ha
  have hl : look ws a = some v.2 := by rw [← e]; exact look_mem W.nd hv
  have hb : bIx (.dic (ws.map wk)) (.str a) = some (rectD v.2) := bIx_win hl
  simp only [d_s3d, dC, dV, dB, dO2, ob_some, dT, dAndT, dOrT, dNotT, dIf, dAndV, dOrV, dNotV, dChain, aNil, aCons, dTup, dLst, dCut, oNone, oSome, dRev, dNeg, dTru, dCa, dIs, dIsA, dCall, dCallK, sNil, sSeq, sNever, sBrk, sCont, sIf, sRet, sRetO, sRetE, sSet, sSetO, sDrop, sPar, sPar3, kn, enOf, owD, sAsg, gNm, gsNil, gsCons, gTp, sApp, sIns, sExt, sClr, sRev, sPut, sFrz, owAt, fin, st, iRng, iRngB, iSeq, lstD, tupD, sFor, dLc, dDc, wipeE, tYesD, dIndex, dSort, dDictZip, dMeth, dFld, dMk, List.map_cons, List.map_nil, List.length_cons, List.length_nil, List.replicate_succ, List.replicate_zero, List.cons_append, List.nil_append, List.append_nil, List.getElem?_cons_zero, List.getElem?_cons_succ, List.set_cons_zero, List.set_cons_succ, Option.bind_some, Option.map_some, Nat.reduceSub, Nat.reduceAdd, kwP, List.getD_cons_zero, List.getD_cons_succ, sDput, odAt, odPut, ep, ea, hb]
  have eb : bMul (.lst [rectD v.2]) (.int 3) = some (.lst [rectD v.2, rectD v.2, rectD v.2]) := by rfl
  have s4 : 4 ≤ sizeLine := by decide
  rw [eb, ob_some, bAdd_l (by simp), ob_some]
  refine ⟨s4, s4, s4, s4, by decide, .inl ⟨_, .inl rfl, by simp, by simp, fun q hq => ?_⟩⟩
  obtain ⟨r2, rfl⟩ : ∃ r2, q = rectD r2 := by
    simp only [List.cons_append, List.nil_append, List.mem_cons, List.not_mem_nil, or_false] at hq
    rcases hq with rfl | rfl | rfl | rfl | rfl | rfl | rfl
    · exact ⟨⟨x, y, x, w⟩, rfl⟩
    · exact ⟨⟨x, y, z, 1000000001⟩, rfl⟩
    · exact ⟨⟨x, w, z, y⟩, rfl⟩
    all_goals exact ⟨v.2, rfl⟩
  have ek : ((keyD (.str a)).bind fun k => if (ws.map wk).length < sizeLine then some (En.od (putD (ws.map wk) k (rectD r2))) else none) = some (.od ((plW ws a r2).map wk)) := by
    show (if (ws.map wk).length < sizeLine then some (En.od (putD (ws.map wk) (Sum.inr a : Key) (rectD r2))) else none) = _
    rw [if_pos (W.len (by omega)), put_pl ha]
  rw [ek, ob_some]
  have l : (plW ws a r2).length = ws.length := List.length_map _
  refine hk _ _ ⟨by rw [nms_pl]; exact W.nd, fun u hu => ?_, by rw [l]; exact W.l1, by rw [l]; exact W.l2⟩
  obtain ⟨o, ho, rfl⟩ := List.mem_map.mp hu
  by_cases e2 : o.1 = a
  · rw [if_pos e2, ← e]; exact W.tx v hv
  · rw [if_neg e2]; exact W.tx o ho
theorem rd_s3b {PP : DEnds} {ws : List Win} {n : Nat} {e2 e4 e5 e6 e7 e8 e9 e10 e11 e12 e13 e14 e15 e16 e17 : En} (W : RW ws n) (hn : n ≤ 60)
    (hk : ∀ ws' e5 e6 e7 e8 e9 e10 e11, RW ws' n → PP.nx (ev3 e2 (.od (ws'.map wk)) e4 e5 e6 e7 e8 e9 e10 e11 e12 e13 e14 e15 e16 e17)) :
    d_s3b PP (ev3 e2 (.od (ws.map wk)) e4 e5 e6 e7 e8 e9 e10 e11 e12 e13 e14 e15 e16 e17) := by
  have key := fun PP a (x y z w : Int) hin hk => rd_s3d (PP := PP) (a := a) (r := ⟨0, 0, 0, 0⟩) (x := x) (y := y) (z := z) (w := w) (e2 := e2) (e4 := e4) (e5 := e5) (e11 := e11) (e12 := e12) (e13 := e13) (e14 := e14) (e15 := e15) (e16 := e16) (e17 := e17) W (by omega) hin hk
  unfold d_s3b d_s3c
  generalize d_s3d = T at key ⊢
  simp only [dC, dV, dB, dO2, ob_some, dT, dAndT, dOrT, dNotT, dIf, dAndV, dOrV, dNotV, dChain, aNil, aCons, dTup, dLst, dCut, oNone, oSome, dRev, dNeg, dTru, dCa, dIs, dIsA, dCall, dCallK, sNil, sSeq, sNever, sBrk, sCont, sIf, sRet, sRetO, sRetE, sSet, sSetO, sDrop, sPar, sPar3, kn, enOf, owD, sAsg, gNm, gsNil, gsCons, gTp, sApp, sIns, sExt, sClr, sRev, sPut, sFrz, owAt, fin, st, iRng, iRngB, iSeq, lstD, tupD, sFor, dLc, dDc, wipeE, tYesD, dIndex, dSort, dDictZip, dMeth, dFld, dMk, List.map_cons, List.map_nil, List.length_cons, List.length_nil, List.replicate_succ, List.replicate_zero, List.cons_append, List.nil_append, List.append_nil, List.getElem?_cons_zero, List.getElem?_cons_succ, List.set_cons_zero, List.set_cons_succ, Option.bind_some, Option.map_some, Nat.reduceSub, Nat.reduceAdd, kwP, List.getD_cons_zero, List.getD_cons_succ, ev3]
  refine ⟨_, txtKeys_win ws, by unfold nms; rw [List.length_map]; have := W.l2; omega, fun ys hs => ?_⟩
  have ly : ys.length = ws.length := by rw [hs.1.length_eq]; exact List.length_map _
  have l1 := W.l1
  have l2 := W.l2
  refine .inl ⟨_, .inl rfl, by rw [List.length_map]; omega, by rw [List.length_map]; omega, fun q hq => ?_⟩
  obtain ⟨a, hy, rfl⟩ := List.mem_map.mp hq
  have ha : a ∈ nms ws := hs.1.mem_iff.mp hy
  obtain ⟨v, hv, e⟩ := List.mem_map.mp ha
  have hl : look ws a = some v.2 := by rw [← e]; exact look_mem W.nd hv
  have hb : bIx (.dic (ws.map wk)) (.str a) = some (rectD v.2) := bIx_win hl
  simp only [hb, ob_some, rectD]
  exact ⟨rfl, trivial, key _ a _ _ _ _ ha fun ws' e11 W' => hk _ _ _ _ _ _ _ _ W'⟩
theorem rd_step3 {PP : DEnds} {ws : List Win} {n : Nat} {e2 e4 e5 e6 e7 e8 e9 e10 e11 e12 e13 e14 e15 e16 e17 : En} (W : RW ws n) (hn : n ≤ 50)
    (hk : ∀ ws' e5 e6 e7 e8 e9 e10 e11, RW ws' (n + 1) → PP.nx (ev3 e2 (.od (ws'.map wk)) e4 e5 e6 e7 e8 e9 e10 e11 e12 e13 e14 e15 e16 e17)) :
    d_step3 PP (ev3 e2 (.od (ws.map wk)) e4 e5 e6 e7 e8 e9 e10 e11 e12 e13 e14 e15 e16 e17) := by
  have key := fun PP ws' (W' : RW ws' (n + 1)) e5 hk => rd_s3b (PP := PP) (e2 := e2) (e4 := e4) (e5 := e5) (e6 := e6) (e7 := e7) (e8 := e8) (e9 := e9) (e10 := e10) (e11 := e11) (e12 := e12) (e13 := e13) (e14 := e14) (e15 := e15) (e16 := e16) (e17 := e17) W' (by omega) hk
  unfold d_step3
  generalize d_s3b = T at key ⊢
  simp only [dC, dV, dB, dO2, ob_some, dT, dAndT, dOrT, dNotT, dIf, dAndV, dOrV, dNotV, dChain, aNil, aCons, dTup, dLst, dCut, oNone, oSome, dRev, dNeg, dTru, dCa, dIs, dIsA, dCall, dCallK, sNil, sSeq, sNever, sBrk, sCont, sIf, sRet, sRetO, sRetE, sSet, sSetO, sDrop, sPar, sPar3, kn, enOf, owD, sAsg, gNm, gsNil, gsCons, gTp, sApp, sIns, sExt, sClr, sRev, sPut, sFrz, owAt, fin, st, iRng, iRngB, iSeq, lstD, tupD, sFor, dLc, dDc, wipeE, tYesD, dIndex, dSort, dDictZip, dMeth, dFld, dMk, List.map_cons, List.map_nil, List.length_cons, List.length_nil, List.replicate_succ, List.replicate_zero, List.cons_append, List.nil_append, List.append_nil, List.getElem?_cons_zero, List.getElem?_cons_succ, List.set_cons_zero, List.set_cons_succ, Option.bind_some, Option.map_some, Nat.reduceSub, Nat.reduceAdd, kwP, List.getD_cons_zero, List.getD_cons_succ, sDput, odAt, ev3]
  refine ⟨by decide, .inl ⟨_, .inl rfl, by decide, by decide, fun q hq => ?_⟩⟩
  obtain ⟨z, rfl, tz⟩ := odds hq
  refine ⟨1, rfl, by decide, by decide, fun x y x2 y2 _ _ _ _ _ _ _ _ => ?_⟩
  have ek : odPut (.od (ws.map wk)) (.str z) (rectD ⟨1 * x, 1 * y, 1 * x2, 1 * y2⟩) = some (.od ((pw ws z ⟨1 * x, 1 * y, 1 * x2, 1 * y2⟩).map wk)) := by
    show (if (ws.map wk).length < sizeLine then some (En.od (putD (ws.map wk) (Sum.inr z : Key) (rectD ⟨1 * x, 1 * y, 1 * x2, 1 * y2⟩))) else none) = _
    rw [if_pos (W.len (by omega)), put_pw]
  show ob (odPut (.od (ws.map wk)) (.str z) (rectD ⟨1 * x, 1 * y, 1 * x2, 1 * y2⟩)) _
  rw [ek, ob_some]
  exact key _ _ (W.pw tz _) _ fun ws' e5 e6 e7 e8 e9 e10 e11 W' => hk _ _ _ _ _ _ _ _ W'
def itW (w : Win) : D := .tup [.str w.1, rectD w.2]
theorem items_wk (ws : List Win) : ((ws.map wk).map fun kd => D.tup [kdD kd.1, kd.2]) = ws.map itW := by
  rw [List.map_map]
  rfl
theorem prD_wk : ∀ hs : List Win, prD (hs.map itW) = some (hs.map wk)
  | [] => rfl
  | w :: r => by
    rw [List.map_cons, List.map_cons]
    show ((keyD (.str w.1)).bind fun k => (prD (r.map itW)).map fun l => (k, rectD w.2) :: l) = _
    rw [prD_wk r]
    rfl
theorem dict_wk {hs : List Win} (nd : (nms hs).Nodup) : dictPD [.lst (hs.map itW)] = some (winD hs) := by
  show (prD _).map _ = _
  rw [prD_wk]
  show some (D.dic (mergeD [] (hs.map wk))) = _
  rw [mergeD_new _ [] ?_]
  · rfl
  · rw [List.nil_append, List.map_map]
    have : ((fun kd : Key × D => kd.1) ∘ wk) = fun w : Win => (Sum.inr w.1 : Key) := rfl
    rw [this]
    have e : (hs.map fun w : Win => (Sum.inr w.1 : Key)) = (nms hs).map Sum.inr := by unfold nms; rw [List.map_map]; rfl
    rw [e]
    exact List.Pairwise.map _ (fun a b h z => h (Sum.inr.inj z)) nd
def unW : D → Win
  | .tup [.str z, .tup [.int a, .int b, .int c, .int d]] => (z, ⟨a, b, c, d⟩)
  | _ => ("", ⟨0, 0, 0, 0⟩)
theorem perm_itW {ys : List D} {ws : List Win} (h : ys.Perm (ws.map itW)) : ∃ vs : List Win, ys = vs.map itW ∧ vs.Perm ws := by
  have key : ∀ w : Win, unW (itW w) = w := fun w => rfl
  refine ⟨ys.map unW, ?_, ?_⟩
  · rw [List.map_map]
    have e : ys.map (itW ∘ unW) = ys.map id := List.map_congr_left fun y hy => by
      obtain ⟨z, _, rfl⟩ := List.mem_map.mp (h.mem_iff.mp hy)
      rfl
    rw [e, List.map_id]
  · have := h.map unW
    rw [List.map_map] at this
    exact this.trans (by rw [show (unW ∘ itW) = id from funext key, List.map_id])
theorem look_prm {vs ws : List Win} (nd : (nms ws).Nodup) (p : vs.Perm ws) (z : Str) : look vs z = look ws z := by
  have nv : (nms vs).Nodup := (p.map (fun w : Win => w.1)).nodup_iff.mpr nd
  cases h : look ws z with
  | some r => exact look_mem nv (p.mem_iff.mpr (look_at h))
  | none =>
    cases h2 : look vs z with
    | none => rfl
    | some r =>
      have := look_mem nd (p.mem_iff.mp (look_at h2))
      rw [h] at this
      cases this
theorem out_perm {vs ws : List Win} (nd : (nms ws).Nodup) (p : vs.Perm ws) (zs : List Str) : outW vs zs = outW ws zs := by
  have e : ∀ z, gdR vs z = gdR ws z := fun z => by unfold gdR; rw [look_prm nd p]
  have f : badR vs zs = badR ws zs := by
    unfold badR
    congr 1
    exact funext fun z => by rw [e]
  unfold outW
  rw [p.length_eq, f]
theorem RW.perm {vs ws : List Win} {n : Nat} (W : RW ws n) (p : vs.Perm ws) : RW vs n := ⟨(p.map (fun w : Win => w.1)).nodup_iff.mpr W.nd, fun w hw => W.tx w (p.mem_iff.mp hw), by rw [p.length_eq]; exact W.l1, by rw [p.length_eq]; exact W.l2⟩
theorem try_desk {c : Cls} {vs : List Win} {zs : List Str} (W : WAny vs) (hs : SortS (nms vs) zs) {P : D → Prop} (q : P (dueD vs (outW vs zs))) :
    spx_Desk___init c [winD vs] (fun y => True ∧ ∃ us, [D.obj c.Desk [("windows", y)]] = [deskD c.Desk us] ∧ ∃ n : Nat, D.int (us.length : Nat) = .int (n : Nat) ∧ n ≤ 1000000 ∧ P (.tup [.str "value", .int (n : Nat)])) (fun e => ErCl.has [(c.BadName, "BadName", some "name"), (c.BadRectangle, "BadRectangle", some "name"), (c.BadSize, "BadSize", none), (c.Unknown, "Unknown", some "name"), (c.NothingLeft, "NothingLeft", none)] e ∧ P (.tup [.str e.w, e.val])) := by
  refine ⟨vs, rfl, W, fun ys hy => ?_⟩
  have e : ys = zs := sorted_one (hy.1.trans hs.1.symm) (sorted_of hy.2) (sorted_of hs.2)
  subst e
  have l := W.len
  have hd : ∀ w n, outW vs ys = some (w, n) → (w = "BadName" ∧ n.isSome = true) ∨ (w = "BadRectangle" ∧ n.isSome = true) ∨ (w = "BadSize" ∧ n = none) := fun w n h => by
    unfold outW at h
    by_cases h1 : 1 ≤ vs.length ∧ vs.length ≤ 24
    · rw [if_pos h1] at h
      cases h2 : badN ys with
      | some z => rw [h2] at h; cases h; exact .inl ⟨rfl, rfl⟩
      | none =>
        rw [h2] at h
        cases h3 : badR vs ys with
        | some z => rw [h3] at h; cases h; exact .inr (.inl ⟨rfl, rfl⟩)
        | none => rw [h3] at h; cases h
    · rw [if_neg h1] at h
      cases h
      exact .inr (.inr ⟨rfl, rfl⟩)
  cases ho : outW vs ys with
  | none =>
    rw [ho] at q
    intro us pu su
    refine ⟨trivial, us, rfl, us.length, rfl, by rw [pu.length_eq]; omega, ?_⟩
    rw [pu.length_eq]
    exact q
  | some o =>
    obtain ⟨w, n⟩ := o
    rw [ho] at q
    rcases hd w n ho with ⟨rfl, hn⟩ | ⟨rfl, hn⟩ | ⟨rfl, rfl⟩
    · cases n with
      | none => cases hn
      | some z =>
        show ErCl.has _ ⟨if ("BadName" : Str) = "BadName" then c.BadName else c.BadRectangle, "BadName", some ("name", .str z)⟩ ∧ _
        rw [if_pos rfl]
        exact ⟨⟨by simp, fun p hp => by cases hp; rfl⟩, q⟩
    · cases n with
      | none => cases hn
      | some z =>
        show ErCl.has _ ⟨if ("BadRectangle" : Str) = "BadName" then c.BadName else c.BadRectangle, "BadRectangle", some ("name", .str z)⟩ ∧ _
        rw [if_neg (by decide +kernel)]
        exact ⟨⟨by simp, fun p hp => by cases hp; rfl⟩, q⟩
    · exact ⟨⟨by simp [erW], fun p hp => by cases hp⟩, q⟩
theorem due_flat (ws : List Win) (o : Option (Str × Option Str)) : (dueD ws o).flat1 = true := by
  match o with
  | none => rfl
  | some (w, none) => rfl
  | some (w, some z) => rfl
theorem due_like {ws : List Win} {o : Option (Str × Option Str)} (h : ∀ w n, o = some (w, n) → PyData.strOk w = true ∧ ∀ z, n = some z → PyData.strOk z = true) : likeD 6 (dueD ws o) = true := by
  have ov : PyData.strOk ("value" : Str) = true := by decide +kernel
  match o, h with
  | none, _ => show (decide (2 ≤ 100000) && (PyData.strOk "value" && (true && true))) = true; rw [ov]; rfl
  | some (w, none), h => show (decide (2 ≤ 100000) && (PyData.strOk w && (true && true))) = true; rw [(h w none rfl).1]; rfl
  | some (w, some z), h => show (decide (2 ≤ 100000) && (PyData.strOk w && (PyData.strOk z && true))) = true; rw [(h w _ rfl).1, (h w _ rfl).2 z rfl]; rfl
theorem out_str {ws : List Win} {zs : List Str} (W : WAny ws) (hs : SortS (nms ws) zs) : ∀ w n, outW ws zs = some (w, n) → PyData.strOk w = true ∧ ∀ z, n = some z → PyData.strOk z = true := fun w n h => by
  have so : ∀ z ∈ zs, PyData.strOk z = true := fun z hz => by
    obtain ⟨v, hv, rfl⟩ := List.mem_map.mp (hs.1.mem_iff.mp hz)
    exact W.so v hv
  unfold outW at h
  by_cases h1 : 1 ≤ ws.length ∧ ws.length ≤ 24
  · rw [if_pos h1] at h
    cases h2 : badN zs with
    | some z => rw [h2] at h; cases h; exact ⟨by decide +kernel, fun y hy => by cases hy; exact so _ (List.mem_of_find?_eq_some h2)⟩
    | none =>
      rw [h2] at h
      cases h3 : badR ws zs with
      | some z => rw [h3] at h; cases h; exact ⟨by decide +kernel, fun y hy => by cases hy; exact so _ (List.mem_of_find?_eq_some h3)⟩
      | none => rw [h3] at h; cases h
  · rw [if_neg h1] at h
    cases h
    exact ⟨by decide +kernel, fun y hy => by cases hy⟩
def tryD3 (c : Cls) : TDE := (dTry [(c.BadName, "BadName", some "name"), (c.BadRectangle, "BadRectangle", some "name"), (c.BadSize, "BadSize", none), (c.Unknown, "Unknown", some "name"), (c.NothingLeft, "NothingLeft", none)] (fun PX => (dLenO c.Desk (sp_Desk___len c) (dMkX c.Desk "windows" (spx_Desk___init c) PX (aCons (dV 15) aNil)))))
theorem lend_try {c : Cls} {ws vs : List Win} {zs : List Str} {e2 e4 e5 e6 e7 e8 e9 e10 e11 e12 e13 e14 e16 e17 : En} (V : WAny vs) (hs : SortS (nms vs) zs) {P : D → Prop} (q : P (dueD vs (outW vs zs))) :
    dLendT 15 (tryD3 c) (ev3 e2 (.od (ws.map wk)) e4 e5 e6 e7 e8 e9 e10 e11 e12 e13 e14 (.od (vs.map wk)) e16 e17) P := by
  have f1 : frz (.od (vs.map wk)) = some (.fz (winD vs)) := rfl
  simp only [tryD3, dLendT, dTry, dLenO, dMkX, hideO, dC, dV, dB, dO2, ob_some, dT, dAndT, dOrT, dNotT, dIf, dAndV, dOrV, dNotV, dChain, aNil, aCons, dTup, dLst, dCut, oNone, oSome, dRev, dNeg, dTru, dCa, dIs, dIsA, dCall, dCallK, sNil, sSeq, sNever, sBrk, sCont, sIf, sRet, sRetO, sRetE, sSet, sSetO, sDrop, sPar, sPar3, kn, enOf, owD, sAsg, gNm, gsNil, gsCons, gTp, sApp, sIns, sExt, sClr, sRev, sPut, sFrz, owAt, fin, st, iRng, iRngB, iSeq, lstD, tupD, sFor, dLc, dDc, wipeE, tYesD, dIndex, dSort, dDictZip, dMeth, dFld, dMk, List.map_cons, List.map_nil, List.length_cons, List.length_nil, List.replicate_succ, List.replicate_zero, List.cons_append, List.nil_append, List.append_nil, List.getElem?_cons_zero, List.getElem?_cons_succ, List.set_cons_zero, List.set_cons_succ, Option.bind_some, Option.map_some, Nat.reduceSub, Nat.reduceAdd, kwP, List.getD_cons_zero, List.getD_cons_succ, En.hide, List.map_cons, List.map_nil, ev3, f1]
  exact try_desk V hs (P := fun x => x.flat1 = true ∧ P x) ⟨due_flat _ _, q⟩
theorem lend_due {ws : List Win} {zs : List Str} {e2 e4 e5 e6 e7 e8 e9 e10 e11 e12 e13 e14 e15 e16 e17 : En} (W : WAny ws) (hs : SortS (nms ws) zs) {P : D → Prop} (q : P (dueD ws (outW ws zs))) :
    dLendT 3 (dCall sp_dueW (aCons (dV 3) aNil)) (ev3 e2 (.od (ws.map wk)) e4 e5 e6 e7 e8 e9 e10 e11 e12 e13 e14 e15 e16 e17) P := by
  have f1 : frz (.od (ws.map wk)) = some (.fz (winD ws)) := rfl
  simp only [dLendT, dC, dV, dB, dO2, ob_some, dT, dAndT, dOrT, dNotT, dIf, dAndV, dOrV, dNotV, dChain, aNil, aCons, dTup, dLst, dCut, oNone, oSome, dRev, dNeg, dTru, dCa, dIs, dIsA, dCall, dCallK, sNil, sSeq, sNever, sBrk, sCont, sIf, sRet, sRetO, sRetE, sSet, sSetO, sDrop, sPar, sPar3, kn, enOf, owD, sAsg, gNm, gsNil, gsCons, gTp, sApp, sIns, sExt, sClr, sRev, sPut, sFrz, owAt, fin, st, iRng, iRngB, iSeq, lstD, tupD, sFor, dLc, dDc, wipeE, tYesD, dIndex, dSort, dDictZip, dMeth, dFld, dMk, List.map_cons, List.map_nil, List.length_cons, List.length_nil, List.replicate_succ, List.replicate_zero, List.cons_append, List.nil_append, List.append_nil, List.getElem?_cons_zero, List.getElem?_cons_succ, List.set_cons_zero, List.set_cons_succ, Option.bind_some, Option.map_some, Nat.reduceSub, Nat.reduceAdd, kwP, List.getD_cons_zero, List.getD_cons_succ, ev3, f1]
  refine ⟨ws, rfl, W, fun ys hy => ?_⟩
  have e : ys = zs := sorted_one (hy.1.trans hs.1.symm) (sorted_of hy.2) (sorted_of hs.2)
  rw [e]
  exact ⟨due_flat _ _, q⟩
theorem ne_items {vs : List Win} {n : Nat} (V : RW vs n) : bEqN true (.lst (vs.map itW)) (.lst (vs.map itW)) = some (.bl false) := by
  have h : sh 4 (.lst (vs.map itW)) = true := by
    show (vs.map itW).all (sh 3) = true
    rw [List.all_eq_true]
    intro x hx
    obtain ⟨w, hw, rfl⟩ := List.mem_map.mp hx
    show (PyData.strOk w.1 && (sh 2 (rectD w.2) && true)) = true
    rw [(V.tx w hw).2]
    rfl
  obtain ⟨b, e, hb⟩ := beq_iff (neg := true) (n := 4) (by decide) h h
  rw [e, hb.mpr rfl]
  rfl
theorem rd_e3c {c : Cls} {PP : DEnds} {ws vs : List Win} {e2 e4 e5 e6 e7 e8 e9 e10 e11 e13 e14 e16 e17 : En} (W : RW ws 60) (p : vs.Perm ws)
    (hk : PP.nx (ev3 e2 (.od (ws.map wk)) e4 e5 e6 e7 e8 e9 e10 e11 (.fz (.lst (vs.map itW))) e13 e14 (.od (vs.map wk)) e16 e17)) :
    d_e3c c PP (ev3 e2 (.od (ws.map wk)) e4 e5 e6 e7 e8 e9 e10 e11 (.fz (.lst (vs.map itW))) e13 e14 (.od (vs.map wk)) e16 e17) := by
  obtain ⟨zs, hs⟩ := sortW_ex (nms vs)
  have V := W.perm p
  have hs2 : SortS (nms ws) zs := ⟨hs.1.trans (p.map (fun w : Win => w.1)), hs.2⟩
  have eo := out_perm W.nd p zs
  have ed : dueD vs (outW vs zs) = dueD ws (outW ws zs) := by
    rw [eo]
    match outW ws zs with
    | none => show D.tup [.str "value", .int (vs.length : Nat)] = .tup [.str "value", .int (ws.length : Nat)]; rw [p.length_eq]
    | some (w, none) => rfl
    | some (w, some z) => rfl
  unfold d_e3c
  simp only [dC, dV, dB, dO2, ob_some, dT, dAndT, dOrT, dNotT, dIf, dAndV, dOrV, dNotV, dChain, aNil, aCons, dTup, dLst, dCut, oNone, oSome, dRev, dNeg, dTru, dCa, dIs, dIsA, dCall, dCallK, sNil, sSeq, sNever, sBrk, sCont, sIf, sRet, sRetO, sRetE, sSet, sSetO, sDrop, sPar, sPar3, kn, enOf, owD, sAsg, gNm, gsNil, gsCons, gTp, sApp, sIns, sExt, sClr, sRev, sPut, sFrz, owAt, fin, st, iRng, iRngB, iSeq, lstD, tupD, sFor, dLc, dDc, wipeE, tYesD, dIndex, dSort, dDictZip, dMeth, dFld, dMk, List.map_cons, List.map_nil, List.length_cons, List.length_nil, List.replicate_succ, List.replicate_zero, List.cons_append, List.nil_append, List.append_nil, List.getElem?_cons_zero, List.getElem?_cons_succ, List.set_cons_zero, List.set_cons_succ, Option.bind_some, Option.map_some, Nat.reduceSub, Nat.reduceAdd, kwP, List.getD_cons_zero, List.getD_cons_succ]
  refine lend_try (c := c) (V.any (by decide)) hs ?_
  refine lend_due (W.any (by decide)) hs2 ?_
  rw [ed]
  refine ⟨_, rfl, due_like (out_str (W.any (by decide)) hs2), ?_⟩
  simp only [dItemsO, dC, dV, dB, dO2, ob_some, dT, dAndT, dOrT, dNotT, dIf, dAndV, dOrV, dNotV, dChain, aNil, aCons, dTup, dLst, dCut, oNone, oSome, dRev, dNeg, dTru, dCa, dIs, dIsA, dCall, dCallK, sNil, sSeq, sNever, sBrk, sCont, sIf, sRet, sRetO, sRetE, sSet, sSetO, sDrop, sPar, sPar3, kn, enOf, owD, sAsg, gNm, gsNil, gsCons, gTp, sApp, sIns, sExt, sClr, sRev, sPut, sFrz, owAt, fin, st, iRng, iRngB, iSeq, lstD, tupD, sFor, dLc, dDc, wipeE, tYesD, dIndex, dSort, dDictZip, dMeth, dFld, dMk, List.map_cons, List.map_nil, List.length_cons, List.length_nil, List.replicate_succ, List.replicate_zero, List.cons_append, List.nil_append, List.append_nil, List.getElem?_cons_zero, List.getElem?_cons_succ, List.set_cons_zero, List.set_cons_succ, Option.bind_some, Option.map_some, Nat.reduceSub, Nat.reduceAdd, kwP, List.getD_cons_zero, List.getD_cons_succ, ev3, Bool.not_true, Bool.false_eq_true, if_false]
  rw [items_wk, ne_items V, ob_some]
  simp only [Bool.false_eq_true, if_false]
  exact hk
theorem rd_end3 {c : Cls} {PP : DEnds} {ws : List Win} {e2 e4 e5 e6 e7 e8 e9 e10 e11 e12 e13 e14 e15 e16 e17 : En} (W : RW ws 60)
    (hk : ∀ e12 e15, PP.nx (ev3 e2 (.od (ws.map wk)) e4 e5 e6 e7 e8 e9 e10 e11 e12 e13 e14 e15 e16 e17)) :
    d_end3 c PP (ev3 e2 (.od (ws.map wk)) e4 e5 e6 e7 e8 e9 e10 e11 e12 e13 e14 e15 e16 e17) := by
  have key := fun vs (p : List.Perm vs ws) => rd_e3c (c := c) (PP := PP) (e2 := e2) (e4 := e4) (e5 := e5) (e6 := e6) (e7 := e7) (e8 := e8) (e9 := e9) (e10 := e10) (e11 := e11) (e13 := e13) (e14 := e14) (e16 := e16) (e17 := e17) W p (hk _ _)
  unfold d_end3
  generalize d_e3c c = T at key ⊢
  simp only [dItemsO, dC, dV, dB, dO2, ob_some, dT, dAndT, dOrT, dNotT, dIf, dAndV, dOrV, dNotV, dChain, aNil, aCons, dTup, dLst, dCut, oNone, oSome, dRev, dNeg, dTru, dCa, dIs, dIsA, dCall, dCallK, sNil, sSeq, sNever, sBrk, sCont, sIf, sRet, sRetO, sRetE, sSet, sSetO, sDrop, sPar, sPar3, kn, enOf, owD, sAsg, gNm, gsNil, gsCons, gTp, sApp, sIns, sExt, sClr, sRev, sPut, sFrz, owAt, fin, st, iRng, iRngB, iSeq, lstD, tupD, sFor, dLc, dDc, wipeE, tYesD, dIndex, dSort, dDictZip, dMeth, dFld, dMk, List.map_cons, List.map_nil, List.length_cons, List.length_nil, List.replicate_succ, List.replicate_zero, List.cons_append, List.nil_append, List.append_nil, List.getElem?_cons_zero, List.getElem?_cons_succ, List.set_cons_zero, List.set_cons_succ, Option.bind_some, Option.map_some, Nat.reduceSub, Nat.reduceAdd, kwP, List.getD_cons_zero, List.getD_cons_succ, ev3]
  rw [items_wk]
  refine ⟨_, .inl rfl, by rw [List.length_map]; have := W.l2; omega, fun ys hy => ?_⟩
  obtain ⟨vs, rfl, pv⟩ := perm_itW hy
  rw [dict_wk (W.perm pv).nd, ob_some]
  show T PP (ev3 e2 (.od (ws.map wk)) e4 e5 e6 e7 e8 e9 e10 e11 (.fz (.lst ((vs.map wk).map fun kd => D.tup [kdD kd.1, kd.2]))) e13 e14 (.od (vs.map wk)) e16 e17)
  rw [items_wk]
  exact key vs pv
theorem rd_body3 {c : Cls} {PP : DEnds} {e2 e3 e4 e5 e6 e7 e8 e9 e10 e11 e12 e13 e14 e15 e16 e17 : En}
    (hk : ∀ e3 e4 e5 e6 e7 e8 e9 e10 e11 e12 e15, PP.nx (ev3 e2 e3 e4 e5 e6 e7 e8 e9 e10 e11 e12 e13 e14 e15 e16 e17)) :
    d_body3 c PP (ev3 e2 e3 e4 e5 e6 e7 e8 e9 e10 e11 e12 e13 e14 e15 e16 e17) := by
  have kS := fun PP ws n e4 e5 e6 e7 e8 e9 e10 e11 (W : RW ws n) hn hk => rd_step3 (PP := PP) (e2 := e2) (e4 := e4) (e5 := e5) (e6 := e6) (e7 := e7) (e8 := e8) (e9 := e9) (e10 := e10) (e11 := e11) (e12 := e12) (e13 := e13) (e14 := e14) (e15 := e15) (e16 := e16) (e17 := e17) W hn hk
  have kE := fun PP ws e4 e5 e6 e7 e8 e9 e10 e11 (W : RW ws 60) hk => rd_end3 (c := c) (PP := PP) (e2 := e2) (e4 := e4) (e5 := e5) (e6 := e6) (e7 := e7) (e8 := e8) (e9 := e9) (e10 := e10) (e11 := e11) (e12 := e12) (e13 := e13) (e14 := e14) (e15 := e15) (e16 := e16) (e17 := e17) W hk
  unfold d_body3
  generalize d_step3 = S at kS ⊢
  generalize d_end3 c = T at kE ⊢
  simp only [dC, dV, dB, dO2, ob_some, dT, dAndT, dOrT, dNotT, dIf, dAndV, dOrV, dNotV, dChain, aNil, aCons, dTup, dLst, dCut, oNone, oSome, dRev, dNeg, dTru, dCa, dIs, dIsA, dCall, dCallK, sNil, sSeq, sNever, sBrk, sCont, sIf, sRet, sRetO, sRetE, sSet, sSetO, sDrop, sPar, sPar3, kn, enOf, owD, sAsg, gNm, gsNil, gsCons, gTp, sApp, sIns, sExt, sClr, sRev, sPut, sFrz, owAt, fin, st, iRng, iRngB, iSeq, lstD, tupD, sFor, dLc, dDc, wipeE, tYesD, dIndex, dSort, dDictZip, dMeth, dFld, dMk, List.map_cons, List.map_nil, List.length_cons, List.length_nil, List.replicate_succ, List.replicate_zero, List.cons_append, List.nil_append, List.append_nil, List.getElem?_cons_zero, List.getElem?_cons_succ, List.set_cons_zero, List.set_cons_succ, Option.bind_some, Option.map_some, Nat.reduceSub, Nat.reduceAdd, kwP, List.getD_cons_zero, List.getD_cons_succ, ev3]
  refine ⟨1, 5, rfl, by decide, by decide, by decide, fun ws W _ w1 w5 => ?_⟩
  refine ⟨_, rfl, by decide, by decide, fun k k0 k1 => ?_⟩
  refine ⟨by omega, by omega, ?_⟩
  refine loop_rng (fun i env => ∃ us e4 e5 e6 e7 e8 e9 e10 e11, RW us (5 + i) ∧ env = ev3 e2 (.od (us.map wk)) e4 e5 e6 e7 e8 e9 e10 e11 e12 e13 e14 e15 e16 e17) ⟨ws, _, _, _, _, _, _, _, _, ⟨W.nd, fun w hw => ⟨txt_name (W.nm w hw), name_ok (W.nm w hw)⟩, by omega, by omega⟩, rfl⟩ (fun i env hi h k2 hk2 => ?_) (fun env h => ?_)
  · obtain ⟨us, e4, e5, e6, e7, e8, e9, e10, e11, R1, rfl⟩ := h
    exact kS _ us (5 + i) _ e5 e6 e7 e8 e9 e10 e11 R1 (by omega) fun ws' e5 e6 e7 e8 e9 e10 e11 R2 => hk2 _ ⟨ws', _, _, _, _, _, _, _, _, R2, rfl⟩
  · obtain ⟨us, e4, e5, e6, e7, e8, e9, e10, e11, R1, rfl⟩ := h
    exact kE _ us e4 e5 e6 e7 e8 e9 e10 e11 ⟨R1.nd, R1.tx, R1.l1, by have := R1.l2; omega⟩ fun e12 e15 => hk _ _ _ _ _ _ _ _ _ _ _
abbrev ec3 (c : Cls) : ErCl := [(c.BadName, "BadName", some "name"), (c.BadRectangle, "BadRectangle", some "name"), (c.BadSize, "BadSize", none), (c.Unknown, "Unknown", some "name"), (c.NothingLeft, "NothingLeft", none)]
def big3 (ns : List Str) : List Win := ns.map fun z => (z, (⟨0, 0, 1, 1⟩ : R))
theorem nms_big (ns : List Str) : nms (big3 ns) = ns := by
  unfold nms big3
  rw [List.map_map]
  exact (List.map_congr_left fun _ _ => rfl).trans (List.map_id _)
theorem big_ok {ns : List Str} (hn : ∀ z ∈ ns, NameOk z) (nd : ns.Nodup) : WOk (big3 ns) := ⟨by rw [nms_big]; exact nd, fun w hw => by obtain ⟨z, hz, rfl⟩ := List.mem_map.mp hw; exact hn z hz, fun w hw => by obtain ⟨z, hz, rfl⟩ := List.mem_map.mp hw; show R.good ⟨0, 0, 1, 1⟩; unfold R.good; decide⟩
theorem big_rw {ns : List Str} (hn : ∀ z ∈ ns, NameOk z) (nd : ns.Nodup) (l : 1 ≤ ns.length) : RW (big3 ns) ns.length := ⟨by rw [nms_big]; exact nd, fun w hw => by obtain ⟨z, hz, rfl⟩ := List.mem_map.mp hw; exact ⟨txt_name (hn z hz), name_ok (hn z hz)⟩, by unfold big3; rw [List.length_map]; exact l, by unfold big3; rw [List.length_map]; exact Nat.le_refl _⟩
theorem pw_len (ws : List Win) (z : Str) (r : R) : ws.length ≤ (pw ws z r).length := by
  unfold pw
  by_cases h : z ∈ nms ws
  · rw [if_pos h]; unfold plW; rw [List.length_map]; exact Nat.le_refl _
  · rw [if_neg h, List.length_append]; exact Nat.le_add_right _ _
theorem mk_size {c : Cls} {ws : List Win} (W : WAny ws) (h : ¬ (1 ≤ ws.length ∧ ws.length ≤ 24)) {P Q : D → Prop} (q : P (.tup [.str "BadSize", .non])) :
    spx_Desk___init c [winD ws] Q (fun e => ErCl.has (ec3 c) e ∧ P (.tup [.str e.w, e.val])) := by
  refine ⟨ws, rfl, W, fun zs hs => ?_⟩
  have e : outW ws zs = some (("BadSize" : Str), (none : Option Str)) := by unfold outW; rw [if_neg h]
  rw [e]
  exact ⟨⟨by simp [erW], fun p hp => by cases hp⟩, q⟩
theorem mk_len {c : Cls} {ws : List Win} (W : WOk ws) (l1 : 1 ≤ ws.length) (l2 : ws.length ≤ 24) {P : D → Prop} {PX : Er → Prop} (q : P (.tup [.str "value", .int (ws.length : Nat)])) :
    spx_Desk___init c [winD ws] (fun y => True ∧ sp_Desk___len c [D.obj c.Desk [("windows", y)]] fun v => ∃ n : Nat, v = .int (n : Nat) ∧ n ≤ 1000000 ∧ P (.tup [.str "value", .int (n : Nat)])) PX := by
  refine ⟨ws, rfl, W.any l2, fun zs hs => ?_⟩
  rw [out_ok W l1 l2 hs]
  intro us pu su
  refine ⟨trivial, us, rfl, us.length, rfl, by rw [pu.length_eq]; omega, ?_⟩
  rw [pu.length_eq]
  exact q
def gd3 : TDE := (dCa dictPD (aCons (dLc (iSeq (dCall sp_names (aCons (dV 1) (aCons (dV 16) aNil)))) (gNm 17) tYesD (dTup (aCons (dV 17) (aCons (dTup (aCons (dC (.int 0)) (aCons (dC (.int 0)) (aCons (dC (.int 1)) (aCons (dC (.int 1)) aNil))))) aNil))) [17]) aNil))
theorem rd_gd3 {e2 e3 e4 e5 e6 e7 e8 e9 e10 e11 e12 e13 e14 e15 e17 : En} {n : Int} (h0 : 0 ≤ n) (h1 : n ≤ 26) {P : D → Prop} (q : ∀ ns : List Str, ns.length = n.toNat → (∀ z ∈ ns, NameOk z) → ns.Nodup → P (winD (big3 ns))) :
    gd3 (ev3 e2 e3 e4 e5 e6 e7 e8 e9 e10 e11 e12 e13 e14 e15 (.fz (.int n)) e17) P := by
  simp only [gd3, dC, dV, dB, dO2, ob_some, dT, dAndT, dOrT, dNotT, dIf, dAndV, dOrV, dNotV, dChain, aNil, aCons, dTup, dLst, dCut, oNone, oSome, dRev, dNeg, dTru, dCa, dIs, dIsA, dCall, dCallK, sNil, sSeq, sNever, sBrk, sCont, sIf, sRet, sRetO, sRetE, sSet, sSetO, sDrop, sPar, sPar3, kn, enOf, owD, sAsg, gNm, gsNil, gsCons, gTp, sApp, sIns, sExt, sClr, sRev, sPut, sFrz, owAt, fin, st, iRng, iRngB, iSeq, lstD, tupD, sFor, dLc, dDc, wipeE, tYesD, dIndex, dSort, dDictZip, dMeth, dFld, dMk, List.map_cons, List.map_nil, List.length_cons, List.length_nil, List.replicate_succ, List.replicate_zero, List.cons_append, List.nil_append, List.append_nil, List.getElem?_cons_zero, List.getElem?_cons_succ, List.set_cons_zero, List.set_cons_succ, Option.bind_some, Option.map_some, Nat.reduceSub, Nat.reduceAdd, kwP, List.getD_cons_zero, List.getD_cons_succ, ev3]
  refine .inl ⟨n, rfl, h0, h1, fun ns ln hn nd => ?_⟩
  refine comp_map D.str (fun z => itW (z, ⟨0, 0, 1, 1⟩)) ns [] (fun z hz Q Z hQ => ?_) (by simp only [List.length_nil]; omega) ?_
  · simp only [dC, dV, dB, dO2, ob_some, dT, dAndT, dOrT, dNotT, dIf, dAndV, dOrV, dNotV, dChain, aNil, aCons, dTup, dLst, dCut, oNone, oSome, dRev, dNeg, dTru, dCa, dIs, dIsA, dCall, dCallK, sNil, sSeq, sNever, sBrk, sCont, sIf, sRet, sRetO, sRetE, sSet, sSetO, sDrop, sPar, sPar3, kn, enOf, owD, sAsg, gNm, gsNil, gsCons, gTp, sApp, sIns, sExt, sClr, sRev, sPut, sFrz, owAt, fin, st, iRng, iRngB, iSeq, lstD, tupD, sFor, dLc, dDc, wipeE, tYesD, dIndex, dSort, dDictZip, dMeth, dFld, dMk, List.map_cons, List.map_nil, List.length_cons, List.length_nil, List.replicate_succ, List.replicate_zero, List.cons_append, List.nil_append, List.append_nil, List.getElem?_cons_zero, List.getElem?_cons_succ, List.set_cons_zero, List.set_cons_succ, Option.bind_some, Option.map_some, Nat.reduceSub, Nat.reduceAdd, kwP, List.getD_cons_zero, List.getD_cons_succ, if_true]
    exact ⟨by decide, by decide, hQ⟩
  · rw [List.nil_append]
    have e : (ns.map fun z => itW (z, ⟨0, 0, 1, 1⟩)) = (big3 ns).map itW := by unfold big3; rw [List.map_map]; rfl
    rw [e, dict_wk (by rw [nms_big]; exact nd), ob_some]
    exact q ns ln hn nd
def try0 (c : Cls) : TDE := (dTry [(c.BadName, "BadName", some "name"), (c.BadRectangle, "BadRectangle", some "name"), (c.BadSize, "BadSize", none), (c.Unknown, "Unknown", some "name"), (c.NothingLeft, "NothingLeft", none)] (fun PX => (dLenO c.Desk (sp_Desk___len c) (dMkX c.Desk "windows" (spx_Desk___init c) PX (aCons (dO2 bIx (dV 14) (dC (.int 0))) aNil)))))
def try1 (c : Cls) : TDE := (dTry [(c.BadName, "BadName", some "name"), (c.BadRectangle, "BadRectangle", some "name"), (c.BadSize, "BadSize", none), (c.Unknown, "Unknown", some "name"), (c.NothingLeft, "NothingLeft", none)] (fun PX => (dMkX c.Desk "windows" (spx_Desk___init c) PX (aCons (dO2 bIx (dV 14) (dC (.int 1))) aNil))))
def try2 (c : Cls) : TDE := (dTry [(c.BadName, "BadName", some "name"), (c.BadRectangle, "BadRectangle", some "name"), (c.BadSize, "BadSize", none), (c.Unknown, "Unknown", some "name"), (c.NothingLeft, "NothingLeft", none)] (fun PX => (dMkX c.Desk "windows" (spx_Desk___init c) PX (aCons dEmp aNil))))
theorem rd_try0 {c : Cls} {ws vs : List Win} {e2 e3 e4 e5 e6 e7 e8 e9 e10 e11 e12 e13 e15 e16 e17 : En} (W : WOk ws) (l1 : 1 ≤ ws.length) (l2 : ws.length ≤ 24) {P : D → Prop} (q : P (.tup [.str "value", .int (ws.length : Nat)])) :
    try0 c (ev3 e2 e3 e4 e5 e6 e7 e8 e9 e10 e11 e12 e13 (.fz (.lst [winD ws, winD vs])) e15 e16 e17) P := by
  have i0 : bIx (.lst [winD ws, winD vs]) (.int 0) = some (winD ws) := bIx_l (j := 0) rfl
  simp only [try0, dTry, dLenO, dMkX, hideO, dC, dV, dB, dO2, ob_some, dT, dAndT, dOrT, dNotT, dIf, dAndV, dOrV, dNotV, dChain, aNil, aCons, dTup, dLst, dCut, oNone, oSome, dRev, dNeg, dTru, dCa, dIs, dIsA, dCall, dCallK, sNil, sSeq, sNever, sBrk, sCont, sIf, sRet, sRetO, sRetE, sSet, sSetO, sDrop, sPar, sPar3, kn, enOf, owD, sAsg, gNm, gsNil, gsCons, gTp, sApp, sIns, sExt, sClr, sRev, sPut, sFrz, owAt, fin, st, iRng, iRngB, iSeq, lstD, tupD, sFor, dLc, dDc, wipeE, tYesD, dIndex, dSort, dDictZip, dMeth, dFld, dMk, List.map_cons, List.map_nil, List.length_cons, List.length_nil, List.replicate_succ, List.replicate_zero, List.cons_append, List.nil_append, List.append_nil, List.getElem?_cons_zero, List.getElem?_cons_succ, List.set_cons_zero, List.set_cons_succ, Option.bind_some, Option.map_some, Nat.reduceSub, Nat.reduceAdd, kwP, List.getD_cons_zero, List.getD_cons_succ, En.hide, List.map_cons, List.map_nil, ev3, i0]
  exact mk_len W l1 l2 q
theorem rd_try1 {c : Cls} {x : D} {vs : List Win} {e2 e3 e4 e5 e6 e7 e8 e9 e10 e11 e12 e13 e15 e16 e17 : En} (W : WAny vs) (h : ¬ (1 ≤ vs.length ∧ vs.length ≤ 24)) {P : D → Prop} (q : P (.tup [.str "BadSize", .non])) :
    try1 c (ev3 e2 e3 e4 e5 e6 e7 e8 e9 e10 e11 e12 e13 (.fz (.lst [x, winD vs])) e15 e16 e17) P := by
  have i1 : bIx (.lst [x, winD vs]) (.int 1) = some (winD vs) := bIx_l (j := 1) rfl
  simp only [try1, dTry, dLenO, dMkX, hideO, dC, dV, dB, dO2, ob_some, dT, dAndT, dOrT, dNotT, dIf, dAndV, dOrV, dNotV, dChain, aNil, aCons, dTup, dLst, dCut, oNone, oSome, dRev, dNeg, dTru, dCa, dIs, dIsA, dCall, dCallK, sNil, sSeq, sNever, sBrk, sCont, sIf, sRet, sRetO, sRetE, sSet, sSetO, sDrop, sPar, sPar3, kn, enOf, owD, sAsg, gNm, gsNil, gsCons, gTp, sApp, sIns, sExt, sClr, sRev, sPut, sFrz, owAt, fin, st, iRng, iRngB, iSeq, lstD, tupD, sFor, dLc, dDc, wipeE, tYesD, dIndex, dSort, dDictZip, dMeth, dFld, dMk, List.map_cons, List.map_nil, List.length_cons, List.length_nil, List.replicate_succ, List.replicate_zero, List.cons_append, List.nil_append, List.append_nil, List.getElem?_cons_zero, List.getElem?_cons_succ, List.set_cons_zero, List.set_cons_succ, Option.bind_some, Option.map_some, Nat.reduceSub, Nat.reduceAdd, kwP, List.getD_cons_zero, List.getD_cons_succ, En.hide, List.map_cons, List.map_nil, ev3, i1]
  exact mk_size W h q
theorem rd_try2 {c : Cls} {env : De} {P : D → Prop} (q : P (.tup [.str "BadSize", .non])) : try2 c env P := by
  simp only [try2, dTry, dMkX, dC, dV, dB, dO2, ob_some, dT, dAndT, dOrT, dNotT, dIf, dAndV, dOrV, dNotV, dChain, aNil, aCons, dTup, dLst, dCut, oNone, oSome, dRev, dNeg, dTru, dCa, dIs, dIsA, dCall, dCallK, sNil, sSeq, sNever, sBrk, sCont, sIf, sRet, sRetO, sRetE, sSet, sSetO, sDrop, sPar, sPar3, kn, enOf, owD, sAsg, gNm, gsNil, gsCons, gTp, sApp, sIns, sExt, sClr, sRev, sPut, sFrz, owAt, fin, st, iRng, iRngB, iSeq, lstD, tupD, sFor, dLc, dDc, wipeE, tYesD, dIndex, dSort, dDictZip, dMeth, dFld, dMk, List.map_cons, List.map_nil, List.length_cons, List.length_nil, List.replicate_succ, List.replicate_zero, List.cons_append, List.nil_append, List.append_nil, List.getElem?_cons_zero, List.getElem?_cons_succ, List.set_cons_zero, List.set_cons_succ, Option.bind_some, Option.map_some, Nat.reduceSub, Nat.reduceAdd, kwP, List.getD_cons_zero, List.getD_cons_succ, dEmp]
  have W : WAny [] := ⟨List.nodup_nil, (fun w h => by cases h), (fun w h => by cases h), Nat.zero_le _⟩
  exact mk_size (ws := []) W (fun z => absurd z.1 (by decide)) q
theorem rd_tail3 {c : Cls} {PP : DEnds} {e2 e3 e4 e5 e6 e7 e8 e9 e10 e11 e12 e13 e14 e15 e16 e17 : En} (hk : PP.rt (.bl true)) :
    d_tail3 c PP (ev3 e2 e3 e4 e5 e6 e7 e8 e9 e10 e11 e12 e13 e14 e15 e16 e17) := by
  have kG := fun (n : Int) (h0 : 0 ≤ n) (h1 : n ≤ 26) (P : D → Prop) q => rd_gd3 (e2 := e2) (e3 := e3) (e4 := e4) (e5 := e5) (e6 := e6) (e7 := e7) (e8 := e8) (e9 := e9) (e10 := e10) (e11 := e11) (e12 := e12) (e13 := e13) (e14 := e14) (e15 := e15) (e17 := e17) h0 h1 (P := P) q
  have k0 := fun e13 (P : D → Prop) ws vs W l1 l2 q => rd_try0 (c := c) (ws := ws) (vs := vs) (e2 := e2) (e3 := e3) (e4 := e4) (e5 := e5) (e6 := e6) (e7 := e7) (e8 := e8) (e9 := e9) (e10 := e10) (e11 := e11) (e12 := e12) (e13 := e13) (e15 := e15) (e16 := e16) (e17 := e17) W l1 l2 (P := P) q
  have k1 := fun e13 (P : D → Prop) x vs W h q => rd_try1 (c := c) (x := x) (vs := vs) (e2 := e2) (e3 := e3) (e4 := e4) (e5 := e5) (e6 := e6) (e7 := e7) (e8 := e8) (e9 := e9) (e10 := e10) (e11 := e11) (e12 := e12) (e13 := e13) (e15 := e15) (e16 := e16) (e17 := e17) W h (P := P) q
  have k2 := fun env (P : D → Prop) q => rd_try2 (c := c) (env := env) (P := P) q
  show (sGr 14 13 (dLcN (iSeq (dLst (aCons (dC (.int 24)) (aCons (dC (.int 25)) aNil)))) (gNm 16) gd3 [16]) (dLst (aCons (try0 c) (aCons (try1 c) (aCons (try2 c) aNil)))) (dTup (aCons (dC (.int 1)) (aCons (dC (.int 0)) (aCons (dC (.int 0)) (aCons (dC (.int 0)) aNil))))) "A" (sSeq (sApp 13 (try1 c)) (sRet (dAndV (dO2 (bEqN false) (dB 13) (dO2 bAdd (dLst (aCons (dTup (aCons (dC (.str "value")) (aCons (dC (.int 24)) aNil))) aNil)) (dO2 bMul (dLst (aCons (dTup (aCons (dC (.str "BadSize")) (aCons (dC .non) aNil))) aNil)) (dC (.int 3))))) (dO2 (bEqN false) (dC (.int 24)) (dC (.int 24))))))) PP _
  generalize gd3 = G at kG ⊢
  generalize try0 c = T0 at k0 ⊢
  generalize try1 c = T1 at k1 ⊢
  generalize try2 c = T2 at k2 ⊢
  have er : bMul (.lst [.tup [.str "BadSize", .non]]) (.int 3) = some (.lst [.tup [.str "BadSize", .non], .tup [.str "BadSize", .non], .tup [.str "BadSize", .non]]) := by rfl
  have ea : bAdd (.lst [.tup [.str "value", .int 24]]) (.lst [.tup [.str "BadSize", .non], .tup [.str "BadSize", .non], .tup [.str "BadSize", .non]]) = some (.lst [.tup [.str "value", .int 24], .tup [.str "BadSize", .non], .tup [.str "BadSize", .non], .tup [.str "BadSize", .non]]) := bAdd_l (by simp)
  have ee : bEqN false (.int 24) (.int 24) = some (.bl true) := rfl
  simp only [sGr, dLcN, dCompN, dC, dV, dB, dO2, ob_some, dT, dAndT, dOrT, dNotT, dIf, dAndV, dOrV, dNotV, dChain, aNil, aCons, dTup, dLst, dCut, oNone, oSome, dRev, dNeg, dTru, dCa, dIs, dIsA, dCall, dCallK, sNil, sSeq, sNever, sBrk, sCont, sIf, sRet, sRetO, sRetE, sSet, sSetO, sDrop, sPar, sPar3, kn, enOf, owD, sAsg, gNm, gsNil, gsCons, gTp, sApp, sIns, sExt, sClr, sRev, sPut, sFrz, owAt, fin, st, iRng, iRngB, iSeq, lstD, tupD, sFor, dLc, dDc, wipeE, tYesD, dIndex, dSort, dDictZip, dMeth, dFld, dMk, List.map_cons, List.map_nil, List.length_cons, List.length_nil, List.replicate_succ, List.replicate_zero, List.cons_append, List.nil_append, List.append_nil, List.getElem?_cons_zero, List.getElem?_cons_succ, List.set_cons_zero, List.set_cons_succ, Option.bind_some, Option.map_some, Nat.reduceSub, Nat.reduceAdd, kwP, List.getD_cons_zero, List.getD_cons_succ, ev3, er, ea, ee]
  refine ⟨by decide, by decide, by decide, .inl ⟨by decide, ?_⟩⟩
  have pu : ∀ ns : List Str, D.pureL (((big3 ns).map wk).map (·.2)) = true := fun ns => by
    unfold big3
    rw [List.map_map, List.map_map]
    induction ns with
    | nil => rfl
    | cons n ns ih => rw [List.map_cons]; exact ih
  refine kG 24 (by decide) (by decide) _ fun ns ln hn nd => ⟨⟨_, rfl, pu ns⟩, by decide, ?_⟩
  refine kG 25 (by decide) (by decide) _ fun ms lm hm md => ⟨⟨_, rfl, pu ms⟩, by decide, ?_⟩
  have lb : ∀ ns : List Str, (big3 ns).length = ns.length := fun ns => List.length_map _
  have ln : ns.length = 24 := ln
  have lm : ms.length = 25 := lm
  have Wm := big_rw hm md (by omega)
  have Wp := Wm.pw (z := "A") ⟨⟨by decide +kernel, by decide +kernel⟩, by decide +kernel⟩ ⟨1, 0, 0, 0⟩
  have lp := pw_len (big3 ms) "A" ⟨1, 0, 0, 0⟩
  have lbm := lb ms
  refine k0 _ _ (big3 ns) (big3 ms) (big_ok hn nd) (by rw [lb]; omega) (by rw [lb]; omega) ?_
  refine k1 _ _ _ (big3 ms) (Wm.any (by omega)) (by omega) ?_
  refine k2 _ _ ⟨by decide, _, (big3 ms).map wk, _, rfl, rfl, rfl, pu ns, pu ms, by rw [List.length_map, sizeLine_eq]; omega, by decide, rfl, ?_⟩
  have ep := put_pw (big3 ms) "A" ⟨1, 0, 0, 0⟩
  show T1 (ev3 e2 e3 e4 e5 e6 e7 e8 e9 e10 e11 e12 _ (.fz (.lst [_, .dic (putD ((big3 ms).map wk) (Sum.inr "A" : Key) (rectD ⟨1, 0, 0, 0⟩))])) e15 e16 e17) _
  rw [ep]
  refine k1 _ _ _ (pw (big3 ms) "A" ⟨1, 0, 0, 0⟩) (Wp.any (by omega)) (by omega) ?_
  refine ⟨(by decide : 3 < sizeLine), by decide, by decide, by decide, by decide, ?_⟩
  have sv : PyData.strOk ("value" : Str) = true := by decide +kernel
  have sb : PyData.strOk ("BadSize" : Str) = true := by decide +kernel
  have hsh : sh 4 (.lst [.tup [.str "value", .int 24], .tup [.str "BadSize", .non], .tup [.str "BadSize", .non], .tup [.str "BadSize", .non]]) = true := by
    show ((PyData.strOk "value" && (true && true)) && ((PyData.strOk "BadSize" && (true && true)) && ((PyData.strOk "BadSize" && (true && true)) && ((PyData.strOk "BadSize" && (true && true)) && true)))) = true
    rw [sv, sb]
    rfl
  rw [lb, ln]
  obtain ⟨b, e, hb⟩ := beq_iff (neg := false) (n := 4) (by decide) hsh hsh
  show ob (bEqN false (.lst [.tup [.str "value", .int 24], .tup [.str "BadSize", .non], .tup [.str "BadSize", .non], .tup [.str "BadSize", .non]]) (.lst [.tup [.str "value", .int 24], .tup [.str "BadSize", .non], .tup [.str "BadSize", .non], .tup [.str "BadSize", .non]])) _
  rw [e, hb.mpr rfl, ob_some]
  exact hk
theorem rd_law {c : Cls} : d_law c { nx := fun _ => False, rt := fun x => x = .bl true } (.no :: .fz .bag :: List.replicate 16 .no) := by
  have hB := fun PP e2 e3 e4 e5 e6 e7 e8 e9 e10 e11 e12 e13 e14 e15 e16 e17 hk => rd_body3 (c := c) (PP := PP) (e2 := e2) (e3 := e3) (e4 := e4) (e5 := e5) (e6 := e6) (e7 := e7) (e8 := e8) (e9 := e9) (e10 := e10) (e11 := e11) (e12 := e12) (e13 := e13) (e14 := e14) (e15 := e15) (e16 := e16) (e17 := e17) hk
  have hT := fun PP e2 e3 e4 e5 e6 e7 e8 e9 e10 e11 e12 e13 e14 e15 e16 e17 hk => rd_tail3 (c := c) (PP := PP) (e2 := e2) (e3 := e3) (e4 := e4) (e5 := e5) (e6 := e6) (e7 := e7) (e8 := e8) (e9 := e9) (e10 := e10) (e11 := e11) (e12 := e12) (e13 := e13) (e14 := e14) (e15 := e15) (e16 := e16) (e17 := e17) hk
  unfold d_law
  generalize d_body3 c = BB at hB ⊢
  generalize d_tail3 c = TT at hT ⊢
  simp only [dC, dV, dB, dO2, ob_some, dT, dAndT, dOrT, dNotT, dIf, dAndV, dOrV, dNotV, dChain, aNil, aCons, dTup, dLst, dCut, oNone, oSome, dRev, dNeg, dTru, dCa, dIs, dIsA, dCall, dCallK, sNil, sSeq, sNever, sBrk, sCont, sIf, sRet, sRetO, sRetE, sSet, sSetO, sDrop, sPar, sPar3, kn, enOf, owD, sAsg, gNm, gsNil, gsCons, gTp, sApp, sIns, sExt, sClr, sRev, sPut, sFrz, owAt, fin, st, iRng, iRngB, iSeq, lstD, tupD, sFor, dLc, dDc, wipeE, tYesD, dIndex, dSort, dDictZip, dMeth, dFld, dMk, List.map_cons, List.map_nil, List.length_cons, List.length_nil, List.replicate_succ, List.replicate_zero, List.cons_append, List.nil_append, List.append_nil, List.getElem?_cons_zero, List.getElem?_cons_succ, List.set_cons_zero, List.set_cons_succ, Option.bind_some, Option.map_some, Nat.reduceSub, Nat.reduceAdd, kwP, List.getD_cons_zero, List.getD_cons_succ]
  refine ⟨by decide, by decide, ?_⟩
  refine loop_rng (fun _ env => ∃ e2 e3 e4 e5 e6 e7 e8 e9 e10 e11 e12 e13 e14 e15 e16 e17, env = ev3 e2 e3 e4 e5 e6 e7 e8 e9 e10 e11 e12 e13 e14 e15 e16 e17) ⟨_, _, _, _, _, _, _, _, _, _, _, _, _, _, _, _, rfl⟩ (fun turn env _ h k hk => ?_) (fun env h => ?_)
  · obtain ⟨e2, e3, e4, e5, e6, e7, e8, e9, e10, e11, e12, e13, e14, e15, e16, e17, rfl⟩ := h
    exact hB _ _ _ _ _ _ _ _ _ _ _ _ _ _ _ _ _ fun e3 e4 e5 e6 e7 e8 e9 e10 e11 e12 e15 => hk _ ⟨_, _, _, _, _, _, _, _, _, _, _, _, _, _, _, _, rfl⟩
  · obtain ⟨e2, e3, e4, e5, e6, e7, e8, e9, e10, e11, e12, e13, e14, e15, e16, e17, rfl⟩ := h
    exact hT _ _ _ _ _ _ _ _ _ _ _ _ _ _ _ _ _ rfl
end DL
namespace RK
open PySem PySem.Spec PyProof.Rows L2 DL
def topS (i : Nat) : Stmt := PySem.Challenge.pw_raisekeys_k03_wrong_desks.main.body.getD i (.Pass ⟨0, 0, 0, 0⟩)
abbrev s_wall : Stmt := topS 0
abbrev s_DeskError___init : Stmt := inClass (topS 2) 0
abbrev s_BadName___init : Stmt := inClass (topS 3) 0
abbrev s_BadRectangle___init : Stmt := inClass (topS 4) 0
abbrev s_BadSize___init : Stmt := inClass (topS 5) 0
abbrev s_Missing___init : Stmt := inClass (topS 6) 0
abbrev s_Unknown___init : Stmt := inClass (topS 7) 0
abbrev s_NothingLeft___init : Stmt := inClass (topS 8) 0
abbrev s_is_rectangle : Stmt := topS 11
abbrev s_has_four_numbers : Stmt := topS 12
abbrev s_is_name : Stmt := topS 17
abbrev s_check_windows : Stmt := topS 18
abbrev s_Desk___init : Stmt := inClass (topS 19) 0
abbrev s_Desk_names : Stmt := inClass (topS 19) 1
abbrev s_Desk_rectangle : Stmt := inClass (topS 19) 2
abbrev s_Desk_overlap : Stmt := inClass (topS 19) 3
abbrev s_Desk_pairs : Stmt := inClass (topS 19) 4
abbrev s_Desk_placed : Stmt := inClass (topS 19) 5
abbrev s_Desk___eq : Stmt := inClass (topS 19) 6
abbrev s_Desk___len : Stmt := inClass (topS 19) 7
abbrev s_Desk___repr : Stmt := inClass (topS 19) 8
abbrev s_bag : Stmt := topS 21
abbrev s_pull : Stmt := topS 22
abbrev s_of : Stmt := topS 23
abbrev s_like : Stmt := topS 24
abbrev s_mixed : Stmt := topS 25
abbrev s_names : Stmt := topS 26
abbrev s_rectangle : Stmt := topS 27
abbrev s_windows : Stmt := topS 28
abbrev s_field : Stmt := topS 29
abbrev s_try : Stmt := topS 30
abbrev s_due : Stmt := topS 31
abbrev s_law : Stmt := topS 32
theorem sc_is_rectangle : FnScope ["rectangle", "left", "top", "right", "bottom", "side"] ["rectangle"] (defScope s_is_rectangle) := ⟨rfl, rfl, rfl, by decide +kernel, rfl, by decide +kernel, by decide +kernel⟩
theorem sc_has_four_numbers : FnScope ["value", "side"] ["value"] (defScope s_has_four_numbers) := ⟨rfl, rfl, rfl, by decide +kernel, rfl, by decide +kernel, by decide +kernel⟩
theorem sc_is_name : FnScope ["text", "letter"] ["text"] (defScope s_is_name) := ⟨rfl, rfl, rfl, by decide +kernel, rfl, by decide +kernel, by decide +kernel⟩
theorem sc_check_windows : FnScope ["windows", "names", "name"] ["windows"] (defScope s_check_windows) := ⟨rfl, rfl, rfl, by decide +kernel, rfl, by decide +kernel, by decide +kernel⟩
theorem sc_Desk___init : FnScope ["self", "windows", "name"] ["self", "windows"] (defScope s_Desk___init) := ⟨rfl, rfl, rfl, by decide +kernel, rfl, by decide +kernel, by decide +kernel⟩
theorem sc_Desk___len : FnScope ["self"] ["self"] (defScope s_Desk___len) := ⟨rfl, rfl, rfl, by decide +kernel, rfl, by decide +kernel, by decide +kernel⟩
theorem sc_bag : FnScope ["_law_script", "_law_salt", "_law_cell"] ["_law_script"] (defScope s_bag) := ⟨rfl, rfl, rfl, by decide +kernel, rfl, by decide +kernel, by decide +kernel⟩
theorem sc_pull : FnScope ["_law_bag_here", "_law_amount", "_law_cell", "_law_got", "_law_seed"] ["_law_bag_here", "_law_amount"] (defScope s_pull) := ⟨rfl, rfl, rfl, by decide +kernel, rfl, by decide +kernel, by decide +kernel⟩
theorem sc_of : FnScope ["_law_bag_here", "_law_things"] ["_law_bag_here", "_law_things"] (defScope s_of) := ⟨rfl, rfl, rfl, by decide +kernel, rfl, by decide +kernel, by decide +kernel⟩
theorem sc_like : FnScope ["_law_found", "_law_due_here", "_law_k"] ["_law_found", "_law_due_here"] (defScope s_like) := ⟨rfl, rfl, rfl, by decide +kernel, rfl, by decide +kernel, by decide +kernel⟩
theorem sc_mixed : FnScope ["_law_bag_here", "_law_things", "_law_found", "_law_thing"] ["_law_bag_here", "_law_things"] (defScope s_mixed) := ⟨rfl, rfl, rfl, by decide +kernel, rfl, by decide +kernel, by decide +kernel⟩
theorem sc_names : FnScope ["_law_bag_here", "_law_count", "_law_letters", "_law_base", "_law_k", "_law_spot", "_law_first", "_law_step"] ["_law_bag_here", "_law_count"] (defScope s_names) := ⟨rfl, rfl, rfl, by decide +kernel, rfl, by decide +kernel, by decide +kernel⟩
theorem sc_rectangle : FnScope ["_law_bag_here", "_law_scale", "_law_left", "_law_top", "_law_right", "_law_bottom"] ["_law_bag_here", "_law_scale"] (defScope s_rectangle) := ⟨rfl, rfl, rfl, by decide +kernel, rfl, by decide +kernel, by decide +kernel⟩
theorem sc_windows : FnScope ["_law_bag_here", "_law_least", "_law_most", "_law_names_here", "_law_scale", "_law_way", "_law_one", "_law_rects", "_law_name"] ["_law_bag_here", "_law_least", "_law_most"] (defScope s_windows) := ⟨rfl, rfl, rfl, by decide +kernel, rfl, by decide +kernel, by decide +kernel⟩
theorem sc_field : FnScope ["_law_e"] ["_law_e"] (defScope s_field) := ⟨rfl, rfl, rfl, by decide +kernel, rfl, by decide +kernel, by decide +kernel⟩
theorem sc_try : FnScope ["_law_ask", "_law_e"] ["_law_ask"] (defScope s_try) := ⟨rfl, rfl, rfl, by decide +kernel, rfl, by decide +kernel, by decide +kernel⟩
theorem sc_due : FnScope ["_law_rects", "_law_letters", "_law_name", "_law_bad", "_law_left", "_law_top", "_law_right", "_law_bottom", "_law_number", "_law_sign"] ["_law_rects"] (defScope s_due) := ⟨rfl, rfl, rfl, by decide +kernel, rfl, by decide +kernel, by decide +kernel⟩
theorem sc_law : FnScope ["_law_script", "_law_bag_here", "_law_turn", "_law_rects", "_law_step", "_law_odd", "_law_at", "_law_left", "_law_top", "_law_right", "_law_bottom", "_law_some", "_law_copied", "_law_found", "_law_great", "_law_handed", "_law_count", "_law_name"] ["_law_script"] (defScope s_law) := ⟨rfl, rfl, rfl, by decide +kernel, rfl, by decide +kernel, by decide +kernel⟩
theorem sc_DeskError___init : FnScope ["self", "word", "why"] ["self", "word", "why"] (defScope s_DeskError___init) := ⟨rfl, rfl, rfl, by decide +kernel, rfl, by decide +kernel, by decide +kernel⟩
theorem sc_BadName___init : FnScope ["self", "name"] ["self", "name"] (defScope s_BadName___init) := ⟨rfl, rfl, rfl, by decide +kernel, rfl, by decide +kernel, by decide +kernel⟩
theorem sc_BadRectangle___init : FnScope ["self", "name"] ["self", "name"] (defScope s_BadRectangle___init) := ⟨rfl, rfl, rfl, by decide +kernel, rfl, by decide +kernel, by decide +kernel⟩
theorem sc_BadSize___init : FnScope ["self"] ["self"] (defScope s_BadSize___init) := ⟨rfl, rfl, rfl, by decide +kernel, rfl, by decide +kernel, by decide +kernel⟩
structure FT (K : PySem.W.Frag) (mg : Str → Option Value) (nm qn : Str) (s0 : Stmt) (ps : List Str) where
  f : Addr
  fd : FuncData
  F : Fun K nm qn s0 f fd
  g : mg nm = some (.ref f)
  b : L2.Binds K fd ps []
structure MT (K : PySem.W.Frag) (C : Addr) (nm qn : Str) (s0 : Stmt) (ps : List Str) where
  f : Addr
  fd : FuncData
  F : Fun K nm qn s0 f fd
  b : L2.Binds K fd ps []
  s : PySem.W.findIn K (.ref C) nm = some (some (.ref f))
  i : PySem.W.isFn K (.ref f) = true
  M : Meth K C nm f
def ft_mk {K : PySem.W.Frag} {h : Heap} {mg : Str → Option Value} {nm qn : Str} {s0 : Stmt} {ps : List Str} {f : Addr} {od an : Option Addr} {sl : Array (Option Value)} {oc kV dc pm cd ct : Value} (X : K.In h) (G : h.Ns mainGlobals mg) (a : PySem.W.nsIn K mainGlobals nm = some (some (.ref f)))
    (l : K.lookup f = some ⟨oc, od, .func (PySem.W.fnOf nm qn (defArgs s0) (defBody s0) (defScope s0) .none kV dc pm an cd ct), sl⟩) (c : PySem.W.codeIn K cd qn = true) (k : PySem.W.keepIn K (.ref f) = true)
    (b : ∀ (kV doc pm : Value) (an : Option Addr) (cdv ct : Value) (us : List Value), us.length = ps.length → bindArgs (PySem.W.fnOf nm qn (defArgs s0) (defBody s0) (defScope s0) .none kV doc pm an cdv ct) { pos := us } = pure (ps.zip us)) : FT K mg nm qn s0 ps :=
  ⟨_, _, fun_mk (st := s0) l c k, PySem.W.mg_of X G a, (fun_mk (st := s0) l c k).binds b⟩
def mt_mk {K : PySem.W.Frag} {C : Addr} {nm qn : Str} {s0 : Stmt} {ps : List Str} {f : Addr} {od an : Option Addr} {sl : Array (Option Value)} {oc kV dc pm cd ct : Value} (a : PySem.W.findIn K (.ref C) nm = some (some (.ref f))) (i : PySem.W.isFn K (.ref f) = true)
    (l : K.lookup f = some ⟨oc, od, .func (PySem.W.fnOf nm qn (defArgs s0) (defBody s0) (defScope s0) .none kV dc pm an cd ct), sl⟩) (c : PySem.W.codeIn K cd qn = true) (k : PySem.W.keepIn K (.ref f) = true)
    (b : ∀ (kV doc pm : Value) (an : Option Addr) (cdv ct : Value) (us : List Value), us.length = ps.length → bindArgs (PySem.W.fnOf nm qn (defArgs s0) (defBody s0) (defScope s0) .none kV doc pm an cdv ct) { pos := us } = pure (ps.zip us)) : MT K C nm qn s0 ps :=
  ⟨_, _, fun_mk (st := s0) l c k, (fun_mk (st := s0) l c k).binds b, a, i, ⟨a, i, k⟩⟩
structure Txt (K : PySem.W.Frag) (mg : Str → Option Value) where
  C_Desk : Addr
  C_DeskError : Addr
  C_BadName : Addr
  C_BadRectangle : Addr
  C_BadSize : Addr
  C_Missing : Addr
  C_Unknown : Addr
  C_NothingLeft : Addr
  p_is_rectangle : FT K mg "is_rectangle" "is_rectangle" s_is_rectangle ["rectangle"]
  p_has_four_numbers : FT K mg "has_four_numbers" "has_four_numbers" s_has_four_numbers ["value"]
  p_is_name : FT K mg "is_name" "is_name" s_is_name ["text"]
  p_check_windows : FT K mg "check_windows" "check_windows" s_check_windows ["windows"]
  p_bag : FT K mg "_law_bag" "_law_bag" s_bag ["_law_script"]
  p_pull : FT K mg "_law_pull" "_law_pull" s_pull ["_law_bag_here", "_law_amount"]
  p_of : FT K mg "_law_of" "_law_of" s_of ["_law_bag_here", "_law_things"]
  p_like : FT K mg "_law_like" "_law_like" s_like ["_law_found", "_law_due_here"]
  p_mixed : FT K mg "_law_mixed" "_law_mixed" s_mixed ["_law_bag_here", "_law_things"]
  p_names : FT K mg "_law_names" "_law_names" s_names ["_law_bag_here", "_law_count"]
  p_rectangle : FT K mg "_law_rectangle" "_law_rectangle" s_rectangle ["_law_bag_here", "_law_scale"]
  p_windows : FT K mg "_law_windows" "_law_windows" s_windows ["_law_bag_here", "_law_least", "_law_most"]
  p_field : FT K mg "_law_field" "_law_field" s_field ["_law_e"]
  p_try : FT K mg "_law_try" "_law_try" s_try ["_law_ask"]
  p_due : FT K mg "_law_due" "_law_due" s_due ["_law_rects"]
  p_Desk___init : MT K C_Desk "__init__" "Desk.__init__" s_Desk___init ["self", "windows"]
  p_Desk___len : MT K C_Desk "__len__" "Desk.__len__" s_Desk___len ["self"]
  f_law : Addr
  fd_law : FuncData
  F_law : Fun K "law" "law" s_law f_law fd_law
  g_law : mg "law" = some (.ref f_law)
  b_law : Binds K fd_law ["_law_script"] []
  cl_Desk : Cls K C_Desk
  M_Desk : Mk K C_Desk p_Desk___init.f
  g_Desk : mg "Desk" = some (.ref C_Desk)
  n_Desk_windows : NoAttr K C_Desk "windows"
  ic_Desk : C8.InsC K C_Desk
  ne_Desk : PySem.W.findIn K (.ref C_Desk) "__ne__" = some (some (.builtin "object.__ne__"))
  mo_Desk : PySem.W.mroIn K C_Desk (.type "object") = some true
  sub_dict_Desk : PySem.W.subIn K (.type "dict") (.ref C_Desk) = some false
  kit_dict_Desk : PySem.W.kitOne K (.type "dict") (.ref C_Desk) = some false
  sub_list_Desk : PySem.W.subIn K (.type "list") (.ref C_Desk) = some false
  kit_list_Desk : PySem.W.kitOne K (.type "list") (.ref C_Desk) = some false
  g_DeskError : mg "DeskError" = some (.ref C_DeskError)
  f_DeskError___init : Addr
  fd_DeskError___init : FuncData
  F_DeskError___init : RK.FunA K "__init__" "DeskError.__init__" s_DeskError___init f_DeskError___init fd_DeskError___init
  b_DeskError___init : Binds K fd_DeskError___init ["self", "word", "why"] []
  x_DeskError : RK.OexG K C_DeskError PySem.OEG.bdV
  xi_DeskError : PySem.W.findIn K (.ref C_DeskError) "__init__" = some (some (.ref f_DeskError___init))
  xt_DeskError : PySem.W.typeIn K (.ref f_DeskError___init) = some (.type "function")
  nx_DeskError_word : PySem.W.findIn K (.ref C_DeskError) "word" = some none
  cr_DeskError : ClX.CRead K C_DeskError (.type "type")
  ci_DeskError : PySem.W.findCls K (.ref C_DeskError) (.type "type") "__init__" = some (.val (.ref f_DeskError___init))
  xf_DeskError : XfC K C_DeskError
  g_BadName : mg "BadName" = some (.ref C_BadName)
  f_BadName___init : Addr
  fd_BadName___init : FuncData
  F_BadName___init : RK.FunA K "__init__" "BadName.__init__" s_BadName___init f_BadName___init fd_BadName___init
  b_BadName___init : Binds K fd_BadName___init ["self", "name"] []
  x_BadName : RK.OexG K C_BadName PySem.OEG.bdV
  xi_BadName : PySem.W.findIn K (.ref C_BadName) "__init__" = some (some (.ref f_BadName___init))
  xt_BadName : PySem.W.typeIn K (.ref f_BadName___init) = some (.type "function")
  nx_BadName_word : PySem.W.findIn K (.ref C_BadName) "word" = some none
  nx_BadName_name : PySem.W.findIn K (.ref C_BadName) "name" = some none
  cr_BadName : ClX.CRead K C_BadName (.type "type")
  ci_BadName : PySem.W.findCls K (.ref C_BadName) (.type "type") "__init__" = some (.val (.ref f_BadName___init))
  xf_BadName : XfC K C_BadName
  g_BadRectangle : mg "BadRectangle" = some (.ref C_BadRectangle)
  f_BadRectangle___init : Addr
  fd_BadRectangle___init : FuncData
  F_BadRectangle___init : RK.FunA K "__init__" "BadRectangle.__init__" s_BadRectangle___init f_BadRectangle___init fd_BadRectangle___init
  b_BadRectangle___init : Binds K fd_BadRectangle___init ["self", "name"] []
  x_BadRectangle : RK.OexG K C_BadRectangle PySem.OEG.bdV
  xi_BadRectangle : PySem.W.findIn K (.ref C_BadRectangle) "__init__" = some (some (.ref f_BadRectangle___init))
  xt_BadRectangle : PySem.W.typeIn K (.ref f_BadRectangle___init) = some (.type "function")
  nx_BadRectangle_word : PySem.W.findIn K (.ref C_BadRectangle) "word" = some none
  nx_BadRectangle_name : PySem.W.findIn K (.ref C_BadRectangle) "name" = some none
  cr_BadRectangle : ClX.CRead K C_BadRectangle (.type "type")
  ci_BadRectangle : PySem.W.findCls K (.ref C_BadRectangle) (.type "type") "__init__" = some (.val (.ref f_BadRectangle___init))
  xf_BadRectangle : XfC K C_BadRectangle
  g_BadSize : mg "BadSize" = some (.ref C_BadSize)
  f_BadSize___init : Addr
  fd_BadSize___init : FuncData
  F_BadSize___init : RK.FunA K "__init__" "BadSize.__init__" s_BadSize___init f_BadSize___init fd_BadSize___init
  b_BadSize___init : Binds K fd_BadSize___init ["self"] []
  x_BadSize : RK.OexG K C_BadSize PySem.OEG.bdV
  xi_BadSize : PySem.W.findIn K (.ref C_BadSize) "__init__" = some (some (.ref f_BadSize___init))
  xt_BadSize : PySem.W.typeIn K (.ref f_BadSize___init) = some (.type "function")
  nx_BadSize_word : PySem.W.findIn K (.ref C_BadSize) "word" = some none
  cr_BadSize : ClX.CRead K C_BadSize (.type "type")
  ci_BadSize : PySem.W.findCls K (.ref C_BadSize) (.type "type") "__init__" = some (.val (.ref f_BadSize___init))
  xf_BadSize : XfC K C_BadSize
  g_Missing : mg "Missing" = some (.ref C_Missing)
  f_Missing___init : Addr
  fd_Missing___init : FuncData
  F_Missing___init : RK.FunA K "__init__" "Missing.__init__" s_Missing___init f_Missing___init fd_Missing___init
  b_Missing___init : Binds K fd_Missing___init ["self", "word", "why"] []
  x_Missing : RK.OexG K C_Missing PySem.OEG.bdL
  xi_Missing : PySem.W.findIn K (.ref C_Missing) "__init__" = some (some (.ref f_Missing___init))
  xt_Missing : PySem.W.typeIn K (.ref f_Missing___init) = some (.type "function")
  nx_Missing_word : PySem.W.findIn K (.ref C_Missing) "word" = some none
  cr_Missing : ClX.CRead K C_Missing (.type "type")
  ci_Missing : PySem.W.findCls K (.ref C_Missing) (.type "type") "__init__" = some (.val (.ref f_Missing___init))
  xf_Missing : XfC K C_Missing
  g_Unknown : mg "Unknown" = some (.ref C_Unknown)
  f_Unknown___init : Addr
  fd_Unknown___init : FuncData
  F_Unknown___init : RK.FunA K "__init__" "Unknown.__init__" s_Unknown___init f_Unknown___init fd_Unknown___init
  b_Unknown___init : Binds K fd_Unknown___init ["self", "name"] []
  x_Unknown : RK.OexG K C_Unknown PySem.OEG.bdL
  xi_Unknown : PySem.W.findIn K (.ref C_Unknown) "__init__" = some (some (.ref f_Unknown___init))
  xt_Unknown : PySem.W.typeIn K (.ref f_Unknown___init) = some (.type "function")
  nx_Unknown_word : PySem.W.findIn K (.ref C_Unknown) "word" = some none
  nx_Unknown_name : PySem.W.findIn K (.ref C_Unknown) "name" = some none
  cr_Unknown : ClX.CRead K C_Unknown (.type "type")
  ci_Unknown : PySem.W.findCls K (.ref C_Unknown) (.type "type") "__init__" = some (.val (.ref f_Unknown___init))
  xf_Unknown : XfC K C_Unknown
  g_NothingLeft : mg "NothingLeft" = some (.ref C_NothingLeft)
  f_NothingLeft___init : Addr
  fd_NothingLeft___init : FuncData
  F_NothingLeft___init : RK.FunA K "__init__" "NothingLeft.__init__" s_NothingLeft___init f_NothingLeft___init fd_NothingLeft___init
  b_NothingLeft___init : Binds K fd_NothingLeft___init ["self"] []
  x_NothingLeft : RK.OexG K C_NothingLeft PySem.OEG.bdI
  xi_NothingLeft : PySem.W.findIn K (.ref C_NothingLeft) "__init__" = some (some (.ref f_NothingLeft___init))
  xt_NothingLeft : PySem.W.typeIn K (.ref f_NothingLeft___init) = some (.type "function")
  nx_NothingLeft_word : PySem.W.findIn K (.ref C_NothingLeft) "word" = some none
  cr_NothingLeft : ClX.CRead K C_NothingLeft (.type "type")
  ci_NothingLeft : PySem.W.findCls K (.ref C_NothingLeft) (.type "type") "__init__" = some (.val (.ref f_NothingLeft___init))
  xf_NothingLeft : XfC K C_NothingLeft
  xm_DeskError : PySem.W.exmAny K (.ref C_DeskError) [.ref C_DeskError, .ref C_Missing] = some true
  xm_BadName : PySem.W.exmAny K (.ref C_BadName) [.ref C_DeskError, .ref C_Missing] = some true
  xm_BadRectangle : PySem.W.exmAny K (.ref C_BadRectangle) [.ref C_DeskError, .ref C_Missing] = some true
  xm_BadSize : PySem.W.exmAny K (.ref C_BadSize) [.ref C_DeskError, .ref C_Missing] = some true
  xm_Missing : PySem.W.exmAny K (.ref C_Missing) [.ref C_DeskError, .ref C_Missing] = some true
  xm_Unknown : PySem.W.exmAny K (.ref C_Unknown) [.ref C_DeskError, .ref C_Missing] = some true
  xm_NothingLeft : PySem.W.exmAny K (.ref C_NothingLeft) [.ref C_DeskError, .ref C_Missing] = some false
  xn_NothingLeft : PySem.W.exmAny K (.ref C_NothingLeft) [.ref C_NothingLeft] = some true
  t_MOST_COORDINATE : Tok
  c_MOST_COORDINATE : mg "MOST_COORDINATE" = some (.int 1000000000 t_MOST_COORDINATE)
  t_MOST_WINDOWS : Tok
  c_MOST_WINDOWS : mg "MOST_WINDOWS" = some (.int 24 t_MOST_WINDOWS)
  t_MOST_LETTERS : Tok
  c_MOST_LETTERS : mg "MOST_LETTERS" = some (.int 6 t_MOST_LETTERS)
  t_LETTERS : Tok
  c_LETTERS : mg "LETTERS" = some (.str "abcdefghijklmnopqrstuvwxyz" t_LETTERS)
  m_ValueError : mg "ValueError" = none
  m_abs : mg "abs" = none
  m_all : mg "all" = none
  m_bool : mg "bool" = none
  m_dict : mg "dict" = none
  m_int : mg "int" = none
  m_isinstance : mg "isinstance" = none
  m_len : mg "len" = none
  m_list : mg "list" = none
  m_max : mg "max" = none
  m_range : mg "range" = none
  m_sorted : mg "sorted" = none
  m_str : mg "str" = none
  m_tuple : mg "tuple" = none
  m_zip : mg "zip" = none
def cls {K : PySem.W.Frag} {mg : Str → Option Value} (T : Txt K mg) : Cls := { Desk := T.C_Desk, BadName := T.C_BadName, BadRectangle := T.C_BadRectangle, BadSize := T.C_BadSize, Unknown := T.C_Unknown, NothingLeft := T.C_NothingLeft }
section
variable {P : Program} {w : World} {K : PySem.W.Frag} {mg : Str → Option Value} {base : Heap}
theorem ok_DeskError___init (T : Txt K mg) {k : Nat} : FnOk P w K mg base CX0 (k + 1) T.f_DeskError___init T.fd_DeskError___init ["self", "word", "why"] (spBase K PySem.OEG.bdV) := by
  refine T.F_DeskError___init.ok sc_DeskError___init (fun vs H Q E h => ?_) (fun cdv A outer s H vs Q E hr h => ?_)
  · obtain ⟨a, C, z, y, rfl, _⟩ := h
    rfl
  · obtain ⟨a, C, z, y, rfl, T1, n1, ha, q⟩ := h
    refine ⟨_, (pss_cons (ps_expr (RK.pe_binit (b := PySem.OEG.bdV) (by rfl) T.m_ValueError (by decide +kernel) PySem.OEX.typ_VE (by decide +kernel) (RK.find_V _) (by decide +kernel) (pa_cons (pv 0) (pa_cons (pv 2) pa_nil))))
      (pss_one (RK.ps_osg (pv 0) (pv 1) rfl))), ?_⟩
    exact ⟨.ref a, rfl, .str y, rfl, a, C, _, rfl, (by simp), T1, ha, .str z, rfl, .ref a, rfl, a, C, _, rfl, T1, n1, .inl ⟨ha, fun dx n ne => q dx n ne⟩⟩
theorem ok_BadName___init (T : Txt K mg) {k : Nat} : FnOk P w K mg base CX0 (k + 2) T.f_BadName___init T.fd_BadName___init ["self", "name"] (spErrS T.C_BadName "BadName" "name") := by
  refine T.F_BadName___init.ok sc_BadName___init (fun vs H Q E h => ?_) (fun cdv A outer s H vs Q E hr h => ?_)
  · obtain ⟨a, y, rfl, _⟩ := h
    rfl
  · obtain ⟨a, y, rfl, hy, ha, q⟩ := h
    refine ⟨_, (pss_cons (ps_expr (RK.pe_cfun (pe_glob (v := .ref T.C_DeskError) (by rfl) T.g_DeskError rfl) T.cr_DeskError T.ci_DeskError T.F_DeskError___init.kp (ok_DeskError___init T) hr T.b_DeskError___init pass0 (pa_cons (pv 0) (pa_cons pe_str (pa_cons (pe_joined (PJ.cons (pe_fmtR (pv 1)) (PJ.cons pe_str PJ.nil))) pa_nil)))))
      (pss_one (RK.ps_osg (pv 0) (pv 1) rfl))), ?_⟩
    have hl := hy.repr
    have h0 : Str.empty.length = 0 := rfl
    have h1 : (Str.ofString " is not a name").length ≤ 100 := by decide +kernel
    refine ⟨rfl, .ref a, rfl, .str y, rfl, .inl ⟨y, rfl, sz20 (by omega), _, rfl, ?_, _, rfl, ?_, a, _, _, _, rfl, T.x_BadName, T.nx_BadName_word, ha, fun dx n ne => ?_⟩⟩
    · exact sz20 (by simp only [str_app]; omega)
    · exact sz20 (by simp only [str_app]; omega)
    · exact ⟨.str y, rfl, .ref a, rfl, a, _, _, rfl, T.x_BadName, T.nx_BadName_name, .inr ⟨dx, _, upd_same, (by rw [upd_ne ne, upd_same]), (by simp), q dx n ne⟩⟩
theorem ok_BadRectangle___init (T : Txt K mg) {k : Nat} : FnOk P w K mg base CX0 (k + 2) T.f_BadRectangle___init T.fd_BadRectangle___init ["self", "name"] (spErrS T.C_BadRectangle "BadRectangle" "name") := by
  refine T.F_BadRectangle___init.ok sc_BadRectangle___init (fun vs H Q E h => ?_) (fun cdv A outer s H vs Q E hr h => ?_)
  · obtain ⟨a, y, rfl, _⟩ := h
    rfl
  · obtain ⟨a, y, rfl, hy, ha, q⟩ := h
    refine ⟨_, (pss_cons (ps_expr (RK.pe_cfun (pe_glob (v := .ref T.C_DeskError) (by rfl) T.g_DeskError rfl) T.cr_DeskError T.ci_DeskError T.F_DeskError___init.kp (ok_DeskError___init T) hr T.b_DeskError___init pass0 (pa_cons (pv 0) (pa_cons pe_str (pa_cons (pe_joined (PJ.cons pe_str (PJ.cons (pe_fmtR (pv 1)) (PJ.cons pe_str PJ.nil)))) pa_nil)))))
      (pss_one (RK.ps_osg (pv 0) (pv 1) rfl))), ?_⟩
    have hl := hy.repr
    have h0 : Str.empty.length = 0 := rfl
    have h1 : (Str.ofString "the tuple of the window ").length ≤ 100 := by decide +kernel
    have h2 : (Str.ofString " is not a rectangle").length ≤ 100 := by decide +kernel
    refine ⟨rfl, .ref a, rfl, _, rfl, ?_, .str y, rfl, .inl ⟨y, rfl, sz20 (by omega), _, rfl, ?_, _, rfl, ?_, a, _, _, _, rfl, T.x_BadRectangle, T.nx_BadRectangle_word, ha, fun dx n ne => ?_⟩⟩
    · exact sz20 (by simp only [str_app]; omega)
    · exact sz20 (by simp only [str_app]; omega)
    · exact sz20 (by simp only [str_app]; omega)
    · exact ⟨.str y, rfl, .ref a, rfl, a, _, _, rfl, T.x_BadRectangle, T.nx_BadRectangle_name, .inr ⟨dx, _, upd_same, (by rw [upd_ne ne, upd_same]), (by simp), q dx n ne⟩⟩
theorem ok_BadSize___init (T : Txt K mg) {k : Nat} : FnOk P w K mg base CX0 (k + 2) T.f_BadSize___init T.fd_BadSize___init ["self"] (spErr0 T.C_BadSize "BadSize") := by
  refine T.F_BadSize___init.ok sc_BadSize___init (fun vs H Q E h => ?_) (fun cdv A outer s H vs Q E hr h => ?_)
  · obtain ⟨a, rfl, _⟩ := h
    rfl
  · obtain ⟨a, rfl, ha, q⟩ := h
    refine ⟨_, (pss_one (ps_expr (RK.pe_cfun (pe_glob (v := .ref T.C_DeskError) (by rfl) T.g_DeskError rfl) T.cr_DeskError T.ci_DeskError T.F_DeskError___init.kp (ok_DeskError___init T) hr T.b_DeskError___init pass0 (pa_cons (pv 0) (pa_cons pe_str (pa_cons pe_str pa_nil)))))), ?_⟩
    exact ⟨rfl, .ref a, rfl, a, _, _, _, rfl, T.x_BadSize, T.nx_BadSize_word, ha, fun dx n ne => q dx n ne⟩
theorem ok_has_four_numbers (T : Txt K mg) {k : Nat} : FnOk P w K mg base CX0 (k + 1) T.p_has_four_numbers.f T.p_has_four_numbers.fd ["value"] (lSp K false sp_has_four_numbers) := by
  refine T.p_has_four_numbers.F.ok sc_has_four_numbers (fun vs H Q E h => ?_) (fun cdv A outer s H vs Q E hr h => ?_)
  · obtain ⟨W, N0, ds, Pd, _, _, _, dd, sp, _⟩ := h
    rw [dd.len]
    exact ln_has_four_numbers sp
  · obtain ⟨W, N0, ds, Pd, al, wn, ok, dd, sp, q⟩ := h
    have tm : PSs (cxOf CX0 P w K mg base ["value", "side"] "has_four_numbers" (defScope s_has_four_numbers) T.p_has_four_numbers.f cdv A outer s H E).nox (defBody s_has_four_numbers) (lS ⟨K, W, N0, H, false⟩ (d_has_four_numbers)) := ((ss_cons (ds_if (PW.pt (wt_or (dt_not (dt_val (dd_isi (by rfl) T.m_isinstance (c_b (dd_v (pv 0))) (pe_bltn (v := .ty "tuple") (by rfl) T.m_tuple (by decide +kernel) rfl)))) (wt_or1 (dt_ne hr (c_b (dd_len (by rfl) T.m_len (c_b (dd_v (pv 0))))) (c_b dd_int))))) (ss_one (ds_ret (by rfl) dd_bl)) ss_nil)
      (ss_one (ds_ret (by rfl) (dd_all (by rfl) T.m_all (c_b (n_c (PE.mono (pe_lc (own := [("side", 1)]) (by rfl) sc_has_four_numbers.nd (db_seq (c_b (dd_v (pv 0)))) (blkOk_by (own := [("side", 1)]) (N := ["value", "side"]) (sc := defScope s_has_four_numbers) (by decide +kernel)) (fun _ _ _ _ _ => (dg_name (i := 1) sc_has_four_numbers.nd rfl (Or.inl rfl))) (fun _ _ _ _ _ => ts_nil) (fun _ _ _ _ _ => (dd_isi (by rfl) T.m_isinstance (c_b (dd_v (pv 1))) (pe_bltn (v := .ty "int") (by rfl) T.m_int (by decide +kernel) rfl)))) (l_lc (by simp))))))))))
    exact ⟨_, tm, fn_d al wn ok dd q (rd_has_four_numbers sp)⟩
theorem ok_is_rectangle (T : Txt K mg) {k : Nat} : FnOk P w K mg base CX0 (k + 2) T.p_is_rectangle.f T.p_is_rectangle.fd ["rectangle"] (lSp K false sp_is_rectangle) := by
  refine T.p_is_rectangle.F.ok sc_is_rectangle (fun vs H Q E h => ?_) (fun cdv A outer s H vs Q E hr h => ?_)
  · obtain ⟨W, N0, ds, Pd, _, _, _, dd, sp, _⟩ := h
    rw [dd.len]
    exact ln_is_rectangle sp
  · obtain ⟨W, N0, ds, Pd, al, wn, ok, dd, sp, q⟩ := h
    have tm : PSs (cxOf CX0 P w K mg base ["rectangle", "left", "top", "right", "bottom", "side"] "is_rectangle" (defScope s_is_rectangle) T.p_is_rectangle.f cdv A outer s H E).nox (defBody s_is_rectangle) (lS ⟨K, W, N0, H, false⟩ (d_is_rectangle)) := ((ss_cons (ds_if (dt_not (dt_val (dd_call (ok_has_four_numbers T) hr (by rfl) T.p_has_four_numbers.g T.p_has_four_numbers.F.kp T.p_has_four_numbers.b pass0 (da_cons (dd_v (pv 0)) da_nil)))) (ss_one (ds_ret (by rfl) dd_bl)) ss_nil)
      (ss_cons (PS.mono (ps_asg (dd_v (pv 0)) (PG.mono (pg_tup (by rfl) (PGs.mono (pgs_cons (dg_name (i := 1) sc_is_rectangle.nd rfl (Or.inl rfl)) (PGs.mono (pgs_cons (dg_name (i := 2) sc_is_rectangle.nd rfl (Or.inl rfl)) (PGs.mono (pgs_cons (dg_name (i := 3) sc_is_rectangle.nd rfl (Or.inl rfl)) (PGs.mono (pgs_cons (dg_name (i := 4) sc_is_rectangle.nd rfl (Or.inl rfl)) dgs_nil) l_gcons)) l_gcons)) l_gcons)) l_gcons)) (l_gtup rfl))) l_asg)
      (ss_cons (ds_if (dt_not (dt_val (dd_all (by rfl) T.m_all (c_b (n_c (PE.mono (pe_lc (own := [("side", 5)]) (by rfl) sc_is_rectangle.nd (db_seq (c_b (dd_v (pv 0)))) (blkOk_by (own := [("side", 5)]) (N := ["rectangle", "left", "top", "right", "bottom", "side"]) (sc := defScope s_is_rectangle) (by decide +kernel)) (fun _ _ _ _ _ => (dg_name (i := 5) sc_is_rectangle.nd rfl (Or.inl rfl))) (fun _ _ _ _ _ => ts_nil) (fun _ _ _ _ _ => (dd_lele (c_b (dd_neg (c_lift (x := .int 1000000000) (pe_glob (v := .int 1000000000) (by rfl) T.c_MOST_COORDINATE ⟨_, rfl⟩) (fun _ _ _ _ => .int _)))) (c_b (dd_v (pv 5))) (c_b (c_lift (x := .int 1000000000) (pe_glob (v := .int 1000000000) (by rfl) T.c_MOST_COORDINATE ⟨_, rfl⟩) (fun _ _ _ _ => .int _)))))) (l_lc (by simp)))))))) (ss_one (ds_ret (by rfl) dd_bl)) ss_nil)
      (ss_one (ds_ret (by rfl) (dd_and (dd_lt (c_b (dd_v (pv 1))) (c_b (dd_v (pv 3)))) (dd_one (dd_lt (c_b (dd_v (pv 2))) (c_b (dd_v (pv 4))))))))))))
    exact ⟨_, tm, fn_d al wn ok dd q (rd_is_rectangle sp)⟩
theorem ok_is_name (T : Txt K mg) {k : Nat} : FnOk P w K mg base CX0 (k + 1) T.p_is_name.f T.p_is_name.fd ["text"] (lSp K false sp_is_name) := by
  refine T.p_is_name.F.ok sc_is_name (fun vs H Q E h => ?_) (fun cdv A outer s H vs Q E hr h => ?_)
  · obtain ⟨W, N0, ds, Pd, _, _, _, dd, sp, _⟩ := h
    rw [dd.len]
    exact ln_is_name sp
  · obtain ⟨W, N0, ds, Pd, al, wn, ok, dd, sp, q⟩ := h
    have tm : PSs (cxOf CX0 P w K mg base ["text", "letter"] "is_name" (defScope s_is_name) T.p_is_name.f cdv A outer s H E).nox (defBody s_is_name) (lS ⟨K, W, N0, H, false⟩ (d_is_name)) := ((ss_cons (ds_if (PW.pt (wt_or (dt_not (dt_val (dd_isi (by rfl) T.m_isinstance (c_b (dd_v (pv 0))) (pe_bltn (v := .ty "str") (by rfl) T.m_str (by decide +kernel) rfl)))) (wt_or1 (dt_not (dt_lele (c_b dd_int) (c_b (dd_len (by rfl) T.m_len (c_b (dd_v (pv 0))))) (c_b (c_lift (x := .int 6) (pe_glob (v := .int 6) (by rfl) T.c_MOST_LETTERS ⟨_, rfl⟩) (fun _ _ _ _ => .int _)))))))) (ss_one (ds_ret (by rfl) dd_bl)) ss_nil)
      (ss_one (ds_ret (by rfl) (dd_all (by rfl) T.m_all (c_b (n_c (PE.mono (pe_lc (own := [("letter", 1)]) (by rfl) sc_is_name.nd (db_seq (c_b (dd_v (pv 0)))) (blkOk_by (own := [("letter", 1)]) (N := ["text", "letter"]) (sc := defScope s_is_name) (by decide +kernel)) (fun _ _ _ _ _ => (dg_name (i := 1) sc_is_name.nd rfl (Or.inl rfl))) (fun _ _ _ _ _ => ts_nil) (fun _ _ _ _ _ => (dd_in hr (c_b (dd_v (pv 1))) (c_b (c_lift (x := .str "abcdefghijklmnopqrstuvwxyz") (pe_glob (v := .str "abcdefghijklmnopqrstuvwxyz") (by rfl) T.c_LETTERS ⟨_, rfl⟩) (fun _ _ _ _ => .str _)))))) (l_lc (by simp))))))))))
    exact ⟨_, tm, fn_d al wn ok dd q (rd_is_name sp)⟩
theorem okx_check_windows (T : Txt K mg) {k : Nat} : FnOk P w K mg base (L2.CX P w) (k + 4) T.p_check_windows.f T.p_check_windows.fd ["windows"] (lSpX K false (spx_check_windows (cls T))) := by
  refine T.p_check_windows.F.okX sc_check_windows (fun vs H Q E h => ?_) (fun cdv A outer s H vs Q E hr h => ?_)
  · obtain ⟨W, N0, ds, Pd, PX, _, _, _, dd, sp, _⟩ := h
    rw [dd.len]
    exact lnx_check_windows sp
  · obtain ⟨W, N0, ds, Pd, PX, al, wn, ok, dd, sp, q, hE⟩ := h
    have tm : PSs (cxOf (L2.CX P w) P w K mg base ["windows", "names", "name"] "check_windows" (defScope s_check_windows) T.p_check_windows.f cdv A outer s H E) (defBody s_check_windows) (lS ⟨K, W, N0, H, false⟩ (dx_check_windows (cls T) PX)) := ((ss_cons (ds_if (dt_not (dt_lele (c_b dd_int) (c_b (dd_len (by rfl) T.m_len (c_b (dd_v (pv 0))))) (c_b (c_lift (x := .int 24) (pe_glob (v := .int 24) (by rfl) T.c_MOST_WINDOWS ⟨_, rfl⟩) (fun _ _ _ _ => .int _))))) (ss_one (ds_raise0 (C := T.C_BadSize) (z := "BadSize") hE rfl (takes_of rfl rfl rfl rfl) (RK.pmk_oexG0 T.x_BadSize T.xi_BadSize T.xt_BadSize (ok_BadSize___init T) hr T.b_BadSize___init .nil pass0 (by rfl) T.g_BadSize))) ss_nil)
      (ss_cons (ds_set (i := 1) sc_check_windows.nd rfl (.inl rfl) (n_c (dn_sort (by rfl) T.m_sorted (c_b (dd_v (pv 0))))))
      (ss_cons (ds_for (passes_of rfl) rfl (di_seq (dd_v (pv 1))) (dg_name (i := 2) sc_check_windows.nd rfl (Or.inl rfl)) (ss_one (ds_if (dt_not (dt_val (dd_call (ok_is_name T) hr (by rfl) T.p_is_name.g T.p_is_name.F.kp T.p_is_name.b pass0 (da_cons (dd_v (pv 2)) da_nil)))) (ss_one (ds_raiseS (C := T.C_BadName) (z := "BadName") (f := "name") hE rfl (takes_of rfl rfl rfl rfl) (RK.pmk_oexG T.x_BadName T.xi_BadName T.xt_BadName (ok_BadName___init T) hr T.b_BadName___init .nil pass0 (by rfl) T.g_BadName (pa_cons (dd_v (pv 2)) pa_nil)))) ss_nil)))
      (ss_one (ds_for (passes_of rfl) rfl (di_seq (dd_v (pv 1))) (dg_name (i := 2) sc_check_windows.nd rfl (Or.inl rfl)) (ss_one (ds_if (dt_not (dt_val (dd_call (ok_is_rectangle T) hr (by rfl) T.p_is_rectangle.g T.p_is_rectangle.F.kp T.p_is_rectangle.b pass0 (da_cons (dd_ix hr (c_b (dd_v (pv 0))) (c_b (dd_v (pv 2)))) da_nil)))) (ss_one (ds_raiseS (C := T.C_BadRectangle) (z := "BadRectangle") (f := "name") hE rfl (takes_of rfl rfl rfl rfl) (RK.pmk_oexG T.x_BadRectangle T.xi_BadRectangle T.xt_BadRectangle (ok_BadRectangle___init T) hr T.b_BadRectangle___init .nil pass0 (by rfl) T.g_BadRectangle (pa_cons (dd_v (pv 2)) pa_nil)))) ss_nil))))))))
    exact ⟨_, tm, fn_d al wn ok dd q (rdx_check_windows sp)⟩
theorem okx_Desk___init (T : Txt K mg) {k : Nat} : FnOk P w K mg base (L2.CX P w) (k + 5) T.p_Desk___init.f T.p_Desk___init.fd ["self", "windows"] (lInitX K T.C_Desk "windows" (spx_Desk___init (cls T))) := by
  refine T.p_Desk___init.F.okX sc_Desk___init (fun vs H Q E h => ?_) (fun cdv A outer s H vs Q E hr h => ?_)
  · obtain ⟨W, N0, x, dx, us, ds, Pd, PX, H1, rfl, _, _, _, _, _, _, _, dd, sp, _⟩ := h
    rw [List.length_cons, dd.len, lnx_Desk___init sp]
    rfl
  · obtain ⟨W, N0, x, dx, us, ds, Pd, PX, H1, rfl, nx, nd, ne, rfl, al, wn, ok, dd, sp, q, hE⟩ := h
    have hl : us.length = 1 := by rw [dd.len]; exact lnx_Desk___init sp
    have tm : PSs (cxOf (L2.CX P w) P w K mg base ["self", "windows", "name"] "Desk.__init__" (defScope s_Desk___init) T.p_Desk___init.f cdv A outer s (upd (upd H1 dx (.own x)) x (.ins T.C_Desk dx [])) E) (defBody s_Desk___init) (tSeq (tDrop (lC ⟨K, W, N0, H1, false⟩ (dCallX (spx_check_windows (cls T)) PX (aCons (dV 1) aNil)))) (sFld K (tVar 0) (lN ⟨K, W, N0, H1, false⟩ (dDc (iSeq (dSort (dV 1))) (gNm 2) tYesD (dV 2) (dO2 bIx (dV 1) (dV 2)) [2])) "windows")) := pss_cons (ps_expr (dd_callX hE (okx_check_windows T) hr (by rfl) T.p_check_windows.g T.p_check_windows.F.kp T.p_check_windows.b (passes_call (takes_of rfl rfl rfl rfl) (fun _ _ _ _ h => h)) (da_cons (dd_v (pv 1)) da_nil))) (pss_one (ps_fld (pv 0) (PE.mono (pe_dc (own := [("name", 2)]) (by rfl) sc_Desk___init.nd (db_seq (c_b (n_c (dn_sort (by rfl) T.m_sorted (c_b (dd_v (pv 1))))))) (blkOk_by (own := [("name", 2)]) (N := ["self", "windows", "name"]) (sc := defScope s_Desk___init) (by decide +kernel)) (fun _ _ _ _ _ => (dg_name (i := 2) sc_Desk___init.nd rfl (Or.inl rfl))) (fun _ _ _ _ _ => ts_nil) (fun _ _ _ _ _ => (dd_v (pv 2))) (fun _ _ _ _ _ => (dd_ix hr (c_b (dd_v (pv 1))) (c_b (dd_v (pv 2)))))) (l_dc (by simp))) rfl))
    exact ⟨_, tm, init1 T.cl_Desk T.n_Desk_windows nx nd ne al wn ok dd (by rw [hl]; decide) q (rdx_Desk___init sp)⟩
theorem ok_Desk___len (T : Txt K mg) {k : Nat} : FnOk P w K mg base CX0 (k + 1) T.p_Desk___len.f T.p_Desk___len.fd ["self"] (lSp K false (sp_Desk___len (cls T))) := by
  refine T.p_Desk___len.F.ok sc_Desk___len (fun vs H Q E h => ?_) (fun cdv A outer s H vs Q E hr h => ?_)
  · obtain ⟨W, N0, ds, Pd, _, _, _, dd, sp, _⟩ := h
    rw [dd.len]
    exact ln_Desk___len sp
  · obtain ⟨W, N0, ds, Pd, al, wn, ok, dd, sp, q⟩ := h
    have tm : PSs (cxOf CX0 P w K mg base ["self"] "Desk.__len__" (defScope s_Desk___len) T.p_Desk___len.f cdv A outer s H E).nox (defBody s_Desk___len) (lS ⟨K, W, N0, H, false⟩ (d_Desk___len (cls T))) := ((ss_one (ds_ret (by rfl) (dd_len (by rfl) T.m_len (c_b (PE.mono (pe_fld (dd_v (pv 0)) rfl) (l_fld T.cl_Desk T.n_Desk_windows)))))))
    exact ⟨_, tm, fn_d al wn ok dd q (rd_Desk___len sp)⟩
theorem okb_bag (T : Txt K mg) {k : Nat} : FnOk P w K mg base CX0 (k + 1) T.p_bag.f T.p_bag.fd ["_law_script"] (spBagT K) := by
  refine T.p_bag.F.ok sc_bag (fun vs H Q E h => ?_) (fun cdv A outer s H vs Q E hr h => ?_)
  · obtain ⟨a, ns, rfl, _⟩ := h
    rfl
  · obtain ⟨a, ns, rfl, hS, hlen, q⟩ := h
    refine ⟨_, (pss_cons (ps_set (i := 1) sc_bag.nd rfl (.inl rfl) pe_int)
      (pss_cons (ps_for PassesOwn.never rfl (pi_list (pe_slice (r := rSlL K) sl_list (pv 0) po_none (po_some pe_int))) (pg_name (i := 2) sc_bag.nd rfl (.inl rfl)) (pss_one (ps_set (i := 1) sc_bag.nd rfl (.inl rfl) (pe_op op_mod (pe_op op_add (pe_op op_add (pe_op op_mul (pv 1) pe_int) (pe_op op_mod (pv 2) pe_int)) pe_int) pe_int))))
      (pss_one (ps_ret (pe_lst (pa_cons (pe_callTy (T := "list") (r := RK.rListQ K) RK.call_listQ (by rfl) T.m_list (by decide +kernel) (pa_cons (pe_slice (r := rSlL K) sl_list (pv 0) po_none (po_some pe_int)) pa_nil)) (pa_cons pe_int (pa_cons pe_int (pa_cons (pv 1) pa_nil))))))))), ?_⟩
    refine ⟨.ref a, rfl, 63, rfl, a, _, rfl, hS, fun p np => ?_⟩
    rw [cut63 ns hlen]
    have t1 : Sn H (upd H p (.lst (ns.map V.int))) := Sn.new np _
    have s1 := t1.f
    refine ⟨p, rfl, ⟨_, .inl (.inl upd_same)⟩, for_list (xs := ns.map V.int) (fun _ σ H' => ∃ z y2, σ = [some (.ref a), some (.int z), y2] ∧ 0 ≤ z ∧ z < 2147483647 ∧ H' = upd H p (.lst (ns.map V.int))) ⟨9489, none, rfl, by decide, by decide, rfl⟩ ?_ ?_ ?_⟩
    · rintro i σ H' _ ⟨z, y2, rfl, _, _, rfl⟩
      exact .inl (.inl upd_same)
    · rintro i x σ H' hx ⟨z, y2, rfl, z0, z1, rfl⟩
      rw [List.getElem?_map] at hx
      obtain ⟨c, hc, rfl⟩ := Option.map_eq_some_iff.mp hx
      refine ⟨.int z, rfl, _, _, rfl, rfl, .inl ⟨by omega, by omega⟩, .int c, rfl, _, _, rfl, rfl, (show (0 : Int) < 2147483587 by decide), _, _, rfl, rfl, _, _, rfl, rfl, _, _, rfl, rfl, (show (0 : Int) < 2147483647 by decide), _, _, rfl, Int.emod_nonneg _ (by decide), Int.emod_lt_of_pos _ (by decide), rfl⟩
    · rintro σ H' ⟨z, y2, rfl, z0, z1, rfl⟩
      refine ⟨.ref a, rfl, 63, rfl, a, _, rfl, s1.seq hS, fun p2 np2 => ?_⟩
      rw [cut63 ns hlen]
      have t2 := Sn.new np2 (.lst (ns.map V.int))
      have s2 := t2.f
      refine ⟨p2, _, rfl, .inl (.inl (.inl upd_same)), fun l nl => ?_⟩
      have t3 := Sn.new nl (.lst (ns.map V.int))
      have s3 := t3.f
      refine ⟨.int z, rfl, (by show 4 ≤ sizeLine; decide), fun b nb => ?_⟩
      have t4 := Sn.new nb (.lst [.ref l, .int 0, .int 0, .int z])
      have s4 := t4.f
      have st : Sn H _ := ((t1.trans t2).trans t3).trans t4
      refine q _ b l st (((s1.trans s2).trans s3).free nb) ((s1.trans s2).free nl) ⟨ns, 0, 0, z, upd_same, s4 _ _ upd_same, ne_of_none upd_same nb, Nat.zero_le _, hlen, by decide, z0, z1⟩
theorem okb_pull (T : Txt K mg) {k : Nat} : FnOk P w K mg base CX0 (k + 1) T.p_pull.f T.p_pull.fd ["_law_bag_here", "_law_amount"] spPull := by
  refine T.p_pull.F.ok sc_pull (fun vs H Q E h => ?_) (fun cdv A outer s H vs Q E hr h => ?_)
  · obtain ⟨b, s, n, rfl, _⟩ := h
    rfl
  · obtain ⟨b, s, n, rfl, B, n1, n2, q⟩ := h
    obtain ⟨ns, i, big, salt, B⟩ := B
    refine ⟨_, (C8.pss_cut (ps_if (PW.pt (pw_and (pt_cmpR op_eq (pe_ix (r := rIxL K) ix_list (pv 0) pe_int (fun _ _ => rfl)) pe_int (nomark _)) (pw_and1 (pt_cmpR op_lt (pe_ix (r := rIxL K) ix_list (pv 0) pe_int (fun _ _ => rfl)) (pe_callB (id := "len") (r := RK.rLenQ K) RK.call_lenQ (by rfl) T.m_len (by decide +kernel) (pa_cons (pe_ix (r := rIxL K) ix_list (pv 0) pe_int (fun _ _ => rfl)) pa_nil)) (nomark _))))) (pss_cons (ps_set (i := 2) sc_pull.nd rfl (.inl rfl) (pe_ix (r := rIxL K) ix_list (pe_ix (r := rIxL K) ix_list (pv 0) pe_int (fun _ _ => rfl)) (pe_ix (r := rIxL K) ix_list (pv 0) pe_int (fun _ _ => rfl)) (fun _ _ => rfl)))
      (pss_cons (ps_asg (pe_op op_add (pe_ix (r := rIxL K) ix_list (pv 0) pe_int (fun _ _ => rfl)) pe_int) (pg_sub (pv 0) pe_int L2.set_list))
      (pss_one (ps_if (pt_cmpR op_ge (pv 2) (pe_op op_pow pe_int pe_int) (nomark _)) (pss_one (ps_asg (pv 2) (pg_sub (pv 0) pe_int L2.set_list))) (pss_one (ps_asg (pe_op op_mod (pe_op op_add (pe_op op_add (pe_op op_mul (pe_ix (r := rIxL K) ix_list (pv 0) pe_int (fun _ _ => rfl)) pe_int) (pe_op op_mul (pe_op op_mod (pv 2) pe_int) pe_int)) pe_int) pe_int) (pg_sub (pv 0) pe_int L2.set_list))))))) pss_nil)
      (pss_cons (ps_if (pt_cmpR op_gt (pe_ix (r := rIxL K) ix_list (pv 0) pe_int (fun _ _ => rfl)) pe_int (nomark _)) (pss_cons (ps_set (i := 3) sc_pull.nd rfl (.inl rfl) (pe_op op_mod (pe_ix (r := rIxL K) ix_list (pv 0) pe_int (fun _ _ => rfl)) (pv 1)))
      (pss_cons (ps_asg (pe_op op_fdivW (pe_ix (r := rIxL K) ix_list (pv 0) pe_int (fun _ _ => rfl)) (pv 1)) (pg_sub (pv 0) pe_int L2.set_list))
      (pss_one (ps_ret (pv 3))))) pss_nil)
      (pss_cons (ps_set (i := 4) sc_pull.nd rfl (.inl rfl) (pe_ix (r := rIxL K) ix_list (pv 0) pe_int (fun _ _ => rfl)))
      (pss_cons (ps_asg (pe_op op_mod (pe_op op_add (pe_op op_add (pe_op op_mul (pv 4) (pv 4)) (pe_op op_mul (pv 4) pe_int)) pe_int) pe_int) (pg_sub (pv 0) pe_int L2.set_list))
      (pss_one (ps_ret (pe_op op_mod (pe_op op_add (pe_op op_fdivW (pe_ix (r := rIxL K) ix_list (pv 0) pe_int (fun _ _ => rfl)) pe_int) (pe_op op_mul (pe_op op_mod (pe_ix (r := rIxL K) ix_list (pv 0) pe_int (fun _ _ => rfl)) pe_int) pe_int)) (pv 1)))))))), ?_⟩
    refine ⟨fun σ H' => ∃ y2, σ = [some (.ref b), some (.int n), y2, none, none] ∧ KeepT b H H' ∧ ∃ i big salt, BagC H' b s ns i big salt, ?_, ?_⟩
    · -- the first if
      refine ⟨.ref b, rfl, b, _, 2, _, rfl, rfl, SqL.of B.hb, at2, rfl, _, rfl, ite2 (fun c => ?_) (fun c => ?_)⟩
      · refine ⟨.ref b, rfl, b, _, 1, _, rfl, rfl, SqL.of B.hb, at1, .ref b, rfl, b, _, 0, _, rfl, rfl, SqL.of B.hb, at0, s, _, rfl, .inl (SqL.of B.hs), _, _, rfl, rfl, _, rfl, ite2 (fun c2 => ?_) (fun c2 => ?_)⟩
        · have hi : i < ns.length := by
            have := of_decide_eq_true c2
            rw [List.length_map] at this
            omega
          have g : (ns.map V.int)[i]? = some (.int ns[i]) := by
            rw [List.getElem?_map, List.getElem?_eq_getElem hi]
            rfl
          refine ⟨.ref b, rfl, b, _, 0, _, rfl, rfl, SqL.of B.hb, at0, .ref b, rfl, b, _, 1, _, rfl, rfl, SqL.of B.hb, at1, s, _, _, _, rfl, rfl, SqL.of B.hs, atI_nat g, ?_⟩
          refine ⟨.ref b, rfl, b, _, 1, _, rfl, rfl, SqL.of B.hb, at1, _, _, rfl, rfl, .ref b, rfl, b, _, 1, 1, rfl, rfl, B.hb, rfl, ?_⟩
          have k1 : KeepT b H (upd H b (.lst [.ref s, .int (↑i + 1), .int big, .int salt])) := (KeepT.refl b H).upd
          have hs1 : (upd H b (.lst [.ref s, .int (↑i + 1), .int big, .int salt])) s = some (.lst (ns.map V.int)) := by rw [upd_ne B.ne]; exact B.hs
          refine ⟨.int ns[i], rfl, _, _, rfl, rfl, ⟨by decide, by decide, by decide⟩, _, _, rfl, rfl, _, rfl, ite2 (fun c3 => ?_) (fun c3 => ?_)⟩
          · have hc : 0 ≤ ns[i] := by
              have h3 := of_decide_eq_true c3
              have h4 : ((10 : Int) ^ (18 : Int).toNat) = 1000000000000000000 := by decide
              rw [h4] at h3
              omega
            refine ⟨.int ns[i], rfl, .ref b, rfl, b, _, 2, 2, rfl, rfl, upd_same, rfl, ?_⟩
            refine ⟨_, rfl, k1.upd, i + 1, ns[i], salt, ⟨?_, ?_, B.ne, hi, B.hn, hc, B.h1, B.h2⟩⟩
            · rw [upd_same]; rfl
            · rw [upd_ne B.ne]; exact hs1
          · refine ⟨.ref b, rfl, b, _, 3, _, rfl, rfl, SqL.of upd_same, at3, _, _, rfl, rfl, .inr ⟨by decide, by decide⟩, .int ns[i], rfl, _, _, rfl, rfl, (show (0 : Int) < 2147483587 by decide), _, _, rfl, rfl, .inr ⟨by decide, by decide⟩, _, _, rfl, rfl, _, _, rfl, rfl, _, _, rfl, rfl, (show (0 : Int) < 2147483647 by decide), .ref b, rfl, b, _, 3, 3, rfl, rfl, upd_same, rfl, ?_⟩
            refine ⟨_, rfl, k1.upd, i + 1, big, (salt * 40692 + ns[i] % 2147483587 * 48271 + 7) % 2147483647, ⟨?_, ?_, B.ne, hi, B.hn, B.h0, Int.emod_nonneg _ (show (2147483647 : Int) ≠ 0 by decide), Int.emod_lt_of_pos _ (show (0 : Int) < 2147483647 by decide)⟩⟩
            · rw [upd_same]; rfl
            · rw [upd_ne B.ne]; exact hs1
        · exact ⟨_, rfl, KeepT.refl b H, i, big, salt, B⟩
      · exact ⟨_, rfl, KeepT.refl b H, i, big, salt, B⟩
    · rintro σ H1 ⟨y2, rfl, k1, i, big, salt, B⟩
      refine ⟨.ref b, rfl, b, _, 2, _, rfl, rfl, SqL.of B.hb, at2, _, _, rfl, rfl, _, rfl, ite2 (fun c => ?_) (fun c => ?_)⟩
      · refine ⟨.ref b, rfl, b, _, 2, _, rfl, rfl, SqL.of B.hb, at2, .int n, rfl, _, _, rfl, rfl, (show (0 : Int) < n by omega), .ref b, rfl, b, _, 2, _, rfl, rfl, SqL.of B.hb, at2, .int n, rfl, _, _, rfl, rfl, cdivw n1 n2, .ref b, rfl, b, _, 2, 2, rfl, rfl, B.hb, rfl, .int (big % n), rfl, ?_⟩
        refine q _ _ (Int.emod_nonneg _ (by omega)) (Int.emod_lt_of_pos _ (by omega)) k1.upd ⟨ns, i, big / n, salt, ?_, ?_, B.ne, B.hi, B.hn, Int.ediv_nonneg B.h0 (by omega), B.h1, B.h2⟩
        · rw [upd_same]; rfl
        · rw [upd_ne B.ne]; exact B.hs
      · have h1 := B.h1
        have h2 := B.h2
        refine ⟨.ref b, rfl, b, _, 3, _, rfl, rfl, SqL.of B.hb, at3, .int salt, rfl, .int salt, rfl, _, _, rfl, rfl, .inl ⟨by omega, by omega⟩, .int salt, rfl, _, _, rfl, rfl, .inl ⟨by omega, by omega⟩, _, _, rfl, rfl, _, _, rfl, rfl, _, _, rfl, rfl, (show (0 : Int) < 2147483647 by decide), .ref b, rfl, b, _, 3, 3, rfl, rfl, B.hb, rfl, ?_⟩
        refine ⟨.ref b, rfl, b, _, 3, _, rfl, rfl, SqL.of upd_same, at3, _, _, rfl, rfl, cdivw (n := 89) (by decide) (by decide), .ref b, rfl, b, _, 3, _, rfl, rfl, SqL.of upd_same, at3, _, _, rfl, rfl, (show (0 : Int) < 8191 by decide), _, _, rfl, rfl, .inr ⟨by decide, by decide⟩, _, _, rfl, rfl, .int n, rfl, _, _, rfl, rfl, (show (0 : Int) < n by omega), ?_⟩
        refine q _ _ (Int.emod_nonneg _ (by omega)) (Int.emod_lt_of_pos _ (by omega)) k1.upd ⟨ns, i, big, (salt * salt + salt * 69621 + 1013904223) % 2147483647, ?_, ?_, B.ne, B.hi, B.hn, B.h0, Int.emod_nonneg _ (show (2147483647 : Int) ≠ 0 by decide), Int.emod_lt_of_pos _ (show (0 : Int) < 2147483647 by decide)⟩
        · rw [upd_same]; rfl
        · rw [upd_ne B.ne]; exact B.hs
theorem ok_pull (T : Txt K mg) {k : Nat} : FnOk P w K mg base CX0 (k + 1) T.p_pull.f T.p_pull.fd ["_law_bag_here", "_law_amount"] (lSp K false sp_pull) := pull_d (okb_pull T)
theorem ok_of (T : Txt K mg) {k : Nat} : FnOk P w K mg base CX0 (k + 2) T.p_of.f T.p_of.fd ["_law_bag_here", "_law_things"] (lSp K false sp_of) := by
  refine T.p_of.F.ok sc_of (fun vs H Q E h => ?_) (fun cdv A outer s H vs Q E hr h => ?_)
  · obtain ⟨W, N0, ds, Pd, _, _, _, dd, sp, _⟩ := h
    rw [dd.len]
    exact ln_of sp
  · obtain ⟨W, N0, ds, Pd, al, wn, ok, dd, sp, q⟩ := h
    have tm : PSs (cxOf CX0 P w K mg base ["_law_bag_here", "_law_things"] "_law_of" (defScope s_of) T.p_of.f cdv A outer s H E).nox (defBody s_of) (lS ⟨K, W, N0, H, false⟩ (d_of)) := ((ss_one (ds_ret (by rfl) (dd_ix hr (c_b (dd_v (pv 1))) (c_b (dd_call (ok_pull T) hr (by rfl) T.p_pull.g T.p_pull.F.kp T.p_pull.b pass0 (da_cons (dd_v (pv 0)) (da_cons (dd_len (by rfl) T.m_len (c_b (dd_v (pv 1)))) da_nil))))))))
    exact ⟨_, tm, fn_d al wn ok dd q (rd_of sp)⟩
theorem like_all (T : Txt K mg) {k : Nat} : ∀ n : Nat, FnOk P w K mg base CX0 (k + n) T.p_like.f T.p_like.fd ["_law_found", "_law_due_here"] (lSp K false (sp_like n)) := by
  intro n
  induction n with
  | zero => exact ⟨fun _ _ _ _ h => (let ⟨_, _, _, _, _, _, _, _, sp, _⟩ := h; sp.elim), fun _ _ _ _ _ _ _ _ _ _ _ _ _ h => (let ⟨_, _, _, _, _, _, _, _, sp, _⟩ := h; sp.elim)⟩
  | succ n G =>
    refine T.p_like.F.ok sc_like (fun vs H Q E h => ?_) (fun cdv A outer s H vs Q E hr h => ?_)
    · obtain ⟨W, N0, ds, Pd, _, _, _, dd, sp, _⟩ := h
      rw [dd.len]
      obtain ⟨x, rfl, _⟩ := sp
      rfl
    · obtain ⟨W, N0, ds, Pd, al, wn, ok, dd, sp, q⟩ := h
      have tm : PSs (cxOf CX0 P w K mg base ["_law_found", "_law_due_here", "_law_k"] "_law_like" (defScope s_like) T.p_like.f cdv A outer s H E).nox (defBody s_like) (lS ⟨K, W, N0, H, false⟩ (d_like (sp_like n))) := ((ss_cons (ds_if (PW.pt (wt_or (dt_ne hr (c_b (dd_isi (by rfl) T.m_isinstance (c_b (dd_v (pv 1))) (pe_bltn (v := .ty "tuple") (by rfl) T.m_tuple (by decide +kernel) rfl))) (c_b (dd_isi (by rfl) T.m_isinstance (c_b (dd_v (pv 0))) (pe_bltn (v := .ty "tuple") (by rfl) T.m_tuple (by decide +kernel) rfl)))) (wt_or1 (dt_ne hr (c_b (dd_isi (by rfl) T.m_isinstance (c_b (dd_v (pv 1))) (pe_bltn (v := .ty "list") (by rfl) T.m_list (by decide +kernel) rfl))) (c_b (dd_isi (by rfl) T.m_isinstance (c_b (dd_v (pv 0))) (pe_bltn (v := .ty "list") (by rfl) T.m_list (by decide +kernel) rfl))))))) (ss_one (ds_ret (by rfl) dd_bl)) ss_nil)
      (ss_cons (ds_if (dt_not (dt_val (dd_isiT (by rfl) T.m_isinstance (c_b (dd_v (pv 1))) (pe_bltn (v := .ty "tuple") (by rfl) T.m_tuple (by decide +kernel) rfl) (pe_bltn (v := .ty "list") (by rfl) T.m_list (by decide +kernel) rfl)))) (ss_one (ds_ret (by rfl) (dd_and (dd_eq hr (c_b (dd_isi (by rfl) T.m_isinstance (c_b (dd_v (pv 0))) (pe_bltn (v := .ty "bool") (by rfl) T.m_bool (by decide +kernel) rfl))) (c_b (dd_isi (by rfl) T.m_isinstance (c_b (dd_v (pv 1))) (pe_bltn (v := .ty "bool") (by rfl) T.m_bool (by decide +kernel) rfl)))) (dd_one (dd_eq hr (c_b (dd_v (pv 0))) (c_b (dd_v (pv 1)))))))) ss_nil)
      (ss_one (ds_ret (by rfl) (dd_and (dd_eq hr (c_b (dd_len (by rfl) T.m_len (c_b (dd_v (pv 0))))) (c_b (dd_len (by rfl) T.m_len (c_b (dd_v (pv 1)))))) (dd_one (dd_all (by rfl) T.m_all (c_b (n_c (PE.mono (pe_lc (own := [("_law_k", 2)]) (by rfl) sc_like.nd (db_rng (by rfl) T.m_range (da_cons (dd_len (by rfl) T.m_len (c_b (dd_v (pv 1)))) da_nil)) (blkOk_by (own := [("_law_k", 2)]) (N := ["_law_found", "_law_due_here", "_law_k"]) (sc := defScope s_like) (by decide +kernel)) (fun _ _ _ _ _ => (dg_name (i := 2) sc_like.nd rfl (Or.inl rfl))) (fun _ _ _ _ _ => ts_nil) (fun _ _ _ _ _ => (dd_call G hr (by rfl) T.p_like.g T.p_like.F.kp T.p_like.b pass0 (da_cons (dd_ix hr (c_b (dd_v (pv 0))) (c_b (dd_v (pv 2)))) (da_cons (dd_ix hr (c_b (dd_v (pv 1))) (c_b (dd_v (pv 2)))) da_nil))))) (l_lc (by simp)))))))))))))
      exact ⟨_, tm, fn_d al wn ok dd q (rd_like sp)⟩
theorem ok_like (T : Txt K mg) {k : Nat} : FnOk P w K mg base CX0 (k + 7) T.p_like.f T.p_like.fd ["_law_found", "_law_due_here"] (lSp K false (sp_like 7)) := like_all T 7
theorem ok_mixed (T : Txt K mg) {k : Nat} : FnOk P w K mg base CX0 (k + 2) T.p_mixed.f T.p_mixed.fd ["_law_bag_here", "_law_things"] (lSp K true sp_mixed) := by
  refine T.p_mixed.F.ok sc_mixed (fun vs H Q E h => ?_) (fun cdv A outer s H vs Q E hr h => ?_)
  · obtain ⟨W, N0, ds, Pd, _, _, _, dd, sp, _⟩ := h
    rw [dd.len]
    exact ln_mixed sp
  · obtain ⟨W, N0, ds, Pd, al, wn, ok, dd, sp, q⟩ := h
    have tm : PSs (cxOf CX0 P w K mg base ["_law_bag_here", "_law_things", "_law_found", "_law_thing"] "_law_mixed" (defScope s_mixed) T.p_mixed.f cdv A outer s H E).nox (defBody s_mixed) (lS ⟨K, W, N0, H, true⟩ (d_mixed)) := ((ss_cons (ds_setO (i := 2) sc_mixed.nd rfl (.inl rfl) (dn_lst da_nil))
      (ss_cons (ds_for PassesOwn.never rfl (di_seq (dd_v (pv 1))) (dg_name (i := 3) sc_mixed.nd rfl (Or.inl rfl)) (ss_one (ds_ins (pv 2) (dd_call (ok_pull T) hr (by rfl) T.p_pull.g T.p_pull.F.kp T.p_pull.b pass0 (da_cons (dd_v (pv 0)) (da_cons (dd_add (c_b (dd_len (by rfl) T.m_len (dd_b (pv 2)))) (c_b dd_int)) da_nil))) (dd_v (pv 3)))))
      (ss_one (ds_retO (pv 2))))))
    exact ⟨_, tm, fn_d al wn ok dd q (rd_mixed sp)⟩
theorem ok_names (T : Txt K mg) {k : Nat} : FnOk P w K mg base CX0 (k + 3) T.p_names.f T.p_names.fd ["_law_bag_here", "_law_count"] (lSp K true sp_names) := by
  refine T.p_names.F.ok sc_names (fun vs H Q E h => ?_) (fun cdv A outer s H vs Q E hr h => ?_)
  · obtain ⟨W, N0, ds, Pd, _, _, _, dd, sp, _⟩ := h
    rw [dd.len]
    exact ln_names sp
  · obtain ⟨W, N0, ds, Pd, al, wn, ok, dd, sp, q⟩ := h
    have tm : PSs (cxOf CX0 P w K mg base ["_law_bag_here", "_law_count", "_law_letters", "_law_base", "_law_k", "_law_spot", "_law_first", "_law_step"] "_law_names" (defScope s_names) T.p_names.f cdv A outer s H E).nox (defBody s_names) (lS ⟨K, W, N0, H, true⟩ (d_names)) := ((ss_cons (PS.mono (ps_asg (n_c (dn_tup (da_cons dd_str (da_cons dd_str da_nil)))) (PG.mono (pg_tup (by rfl) (PGs.mono (pgs_cons (dg_name (i := 2) sc_names.nd rfl (Or.inr rfl)) (PGs.mono (pgs_cons (dg_name (i := 3) sc_names.nd rfl (Or.inr rfl)) dgs_nil) l_gcons)) l_gcons)) (l_gtup rfl))) l_asg)
      (ss_cons (ds_for PassesOwn.never rfl (di_rng (by rfl) T.m_range (da_cons (dd_call (ok_pull T) hr (by rfl) T.p_pull.g T.p_pull.F.kp T.p_pull.b pass0 (da_cons (dd_v (pv 0)) (da_cons dd_int da_nil))) da_nil)) (dg_name (i := 4) sc_names.nd rfl (Or.inl rfl)) (ss_one (ds_set (i := 3) sc_names.nd rfl (.inr rfl) (dd_add (c_b (dd_v (pv 3))) (c_b (dd_call (ok_of T) hr (by rfl) T.p_of.g T.p_of.F.kp T.p_of.b pass0 (da_cons (dd_v (pv 0)) (da_cons (dd_v (pv 2)) da_nil))))))))
      (ss_cons (ds_if (dt_eq hr (c_b (dd_call (ok_pull T) hr (by rfl) T.p_pull.g T.p_pull.F.kp T.p_pull.b pass0 (da_cons (dd_v (pv 0)) (da_cons dd_int da_nil)))) (c_b dd_int)) (ss_one (ds_retN (PE.mono (pe_lc (own := [("_law_k", 4)]) (by rfl) sc_names.nd (db_rng (by rfl) T.m_range (da_cons (dd_v (pv 1)) da_nil)) (blkOk_by (own := [("_law_k", 4)]) (N := ["_law_bag_here", "_law_count", "_law_letters", "_law_base", "_law_k", "_law_spot", "_law_first", "_law_step"]) (sc := defScope s_names) (by decide +kernel)) (fun _ _ _ _ _ => (dg_name (i := 4) sc_names.nd rfl (Or.inl rfl))) (fun _ _ _ _ _ => ts_nil) (fun _ _ _ _ _ => (dd_mul (c_b (dd_ix hr (c_b (dd_v (pv 2))) (c_b (dd_mod (c_b (dd_add (c_b (dd_len (by rfl) T.m_len (c_b (dd_v (pv 3))))) (c_b (dd_mul (c_b dd_int) (c_b (dd_v (pv 4))))))) (c_b dd_int))))) (c_b (dd_add (c_b dd_int) (c_b (dd_mod (c_b (dd_add (c_b (dd_len (by rfl) T.m_len (c_b (dd_v (pv 3))))) (c_b (dd_mul (c_b dd_int) (c_b (dd_v (pv 4))))))) (c_b dd_int)))))))) (l_lc (by simp))))) ss_nil)
      (ss_cons (PS.mono (ps_asg (n_c (dn_tup (da_cons (dd_call (ok_pull T) hr (by rfl) T.p_pull.g T.p_pull.F.kp T.p_pull.b pass0 (da_cons (dd_v (pv 0)) (da_cons (dd_add (c_b (dd_len (by rfl) T.m_len (c_b (dd_v (pv 3))))) (c_b dd_int)) da_nil))) (da_cons (dd_call (ok_pull T) hr (by rfl) T.p_pull.g T.p_pull.F.kp T.p_pull.b pass0 (da_cons (dd_v (pv 0)) (da_cons dd_int da_nil))) (da_cons (dd_call (ok_of T) hr (by rfl) T.p_of.g T.p_of.F.kp T.p_of.b pass0 (da_cons (dd_v (pv 0)) (da_cons (n_c (dn_lst (da_cons dd_int (da_cons dd_int (da_cons dd_int (da_cons dd_int (da_cons dd_int da_nil))))))) da_nil))) da_nil))))) (PG.mono (pg_tup (by rfl) (PGs.mono (pgs_cons (dg_name (i := 5) sc_names.nd rfl (Or.inr rfl)) (PGs.mono (pgs_cons (dg_name (i := 6) sc_names.nd rfl (Or.inr rfl)) (PGs.mono (pgs_cons (dg_name (i := 7) sc_names.nd rfl (Or.inr rfl)) dgs_nil) l_gcons)) l_gcons)) l_gcons)) (l_gtup rfl))) l_asg)
      (ss_one (ds_retN (PE.mono (pe_lc (own := [("_law_k", 4)]) (by rfl) sc_names.nd (db_rng (by rfl) T.m_range (da_cons (dd_v (pv 1)) da_nil)) (blkOk_by (own := [("_law_k", 4)]) (N := ["_law_bag_here", "_law_count", "_law_letters", "_law_base", "_law_k", "_law_spot", "_law_first", "_law_step"]) (sc := defScope s_names) (by decide +kernel)) (fun _ _ _ _ _ => (dg_name (i := 4) sc_names.nd rfl (Or.inl rfl))) (fun _ _ _ _ _ => ts_nil) (fun _ _ _ _ _ => (dd_add (c_b (dd_add (c_b (dd_cut (c_b (dd_v (pv 3))) do_none (do_some (dd_v (pv 5))))) (c_b (dd_ix hr (c_b (dd_v (pv 2))) (c_b (dd_mod (c_b (dd_add (c_b (dd_v (pv 6))) (c_b (dd_mul (c_b (dd_v (pv 7))) (c_b (dd_v (pv 4))))))) (c_b dd_int))))))) (c_b (dd_cut (c_b (dd_v (pv 3))) (do_some (dd_v (pv 5))) do_none))))) (l_lc (by simp))))))))))
    exact ⟨_, tm, fn_d al wn ok dd q (rd_names sp)⟩
theorem ok_rectangle (T : Txt K mg) {k : Nat} : FnOk P w K mg base CX0 (k + 2) T.p_rectangle.f T.p_rectangle.fd ["_law_bag_here", "_law_scale"] (lSp K true sp_rectangle) := by
  refine T.p_rectangle.F.ok sc_rectangle (fun vs H Q E h => ?_) (fun cdv A outer s H vs Q E hr h => ?_)
  · obtain ⟨W, N0, ds, Pd, _, _, _, dd, sp, _⟩ := h
    rw [dd.len]
    exact ln_rectangle sp
  · obtain ⟨W, N0, ds, Pd, al, wn, ok, dd, sp, q⟩ := h
    have tm : PSs (cxOf CX0 P w K mg base ["_law_bag_here", "_law_scale", "_law_left", "_law_top", "_law_right", "_law_bottom"] "_law_rectangle" (defScope s_rectangle) T.p_rectangle.f cdv A outer s H E).nox (defBody s_rectangle) (lS ⟨K, W, N0, H, true⟩ (d_rectangle)) := ((ss_cons (PS.mono (ps_par (i := 2) (j := 3) (by rfl) sc_rectangle.nd rfl rfl (by decide) rfl rfl (pa_cons (dd_sub (c_b (dd_call (ok_pull T) hr (by rfl) T.p_pull.g T.p_pull.F.kp T.p_pull.b pass0 (da_cons (dd_v (pv 0)) (da_cons dd_int da_nil)))) (c_b dd_int)) (pa_cons (dd_sub (c_b (dd_call (ok_pull T) hr (by rfl) T.p_pull.g T.p_pull.F.kp T.p_pull.b pass0 (da_cons (dd_v (pv 0)) (da_cons dd_int da_nil)))) (c_b dd_int)) pa_nil)) (by rfl)) l_par)
      (ss_cons (PS.mono (ps_par (i := 4) (j := 5) (by rfl) sc_rectangle.nd rfl rfl (by decide) rfl rfl (pa_cons (dd_add (c_b (dd_add (c_b (dd_v (pv 2))) (c_b dd_int))) (c_b (dd_call (ok_pull T) hr (by rfl) T.p_pull.g T.p_pull.F.kp T.p_pull.b pass0 (da_cons (dd_v (pv 0)) (da_cons dd_int da_nil))))) (pa_cons (dd_add (c_b (dd_add (c_b (dd_v (pv 3))) (c_b dd_int))) (c_b (dd_call (ok_pull T) hr (by rfl) T.p_pull.g T.p_pull.F.kp T.p_pull.b pass0 (da_cons (dd_v (pv 0)) (da_cons dd_int da_nil))))) pa_nil)) (by rfl)) l_par)
      (ss_one (ds_retN (dn_tup (da_cons (dd_mul (c_b (dd_v (pv 1))) (c_b (dd_v (pv 2)))) (da_cons (dd_mul (c_b (dd_v (pv 1))) (c_b (dd_v (pv 3)))) (da_cons (dd_mul (c_b (dd_v (pv 1))) (c_b (dd_v (pv 4)))) (da_cons (dd_mul (c_b (dd_v (pv 1))) (c_b (dd_v (pv 5)))) da_nil))))))))))
    exact ⟨_, tm, fn_d al wn ok dd q (rd_rectangle sp)⟩
theorem ok_windows (T : Txt K mg) {k : Nat} : FnOk P w K mg base CX0 (k + 4) T.p_windows.f T.p_windows.fd ["_law_bag_here", "_law_least", "_law_most"] (lSp K true sp_windows) := by
  refine T.p_windows.F.ok sc_windows (fun vs H Q E h => ?_) (fun cdv A outer s H vs Q E hr h => ?_)
  · obtain ⟨W, N0, ds, Pd, _, _, _, dd, sp, _⟩ := h
    rw [dd.len]
    exact ln_windows sp
  · obtain ⟨W, N0, ds, Pd, al, wn, ok, dd, sp, q⟩ := h
    have tm : PSs (cxOf CX0 P w K mg base ["_law_bag_here", "_law_least", "_law_most", "_law_names_here", "_law_scale", "_law_way", "_law_one", "_law_rects", "_law_name"] "_law_windows" (defScope s_windows) T.p_windows.f cdv A outer s H E).nox (defBody s_windows) (lS ⟨K, W, N0, H, true⟩ (d_windows)) := ((ss_cons (ds_set (i := 3) sc_windows.nd rfl (.inl rfl) (n_c (dn_call (ok_mixed T) hr (by rfl) T.p_mixed.g T.p_mixed.F.kp T.p_mixed.b pass0 (da_cons (dd_v (pv 0)) (da_cons (n_c (dn_call (ok_names T) hr (by rfl) T.p_names.g T.p_names.F.kp T.p_names.b pass0 (da_cons (dd_v (pv 0)) (da_cons (dd_add (c_b (dd_v (pv 1))) (c_b (dd_call (ok_pull T) hr (by rfl) T.p_pull.g T.p_pull.F.kp T.p_pull.b pass0 (da_cons (dd_v (pv 0)) (da_cons (dd_add (c_b (dd_sub (c_b (dd_v (pv 2))) (c_b (dd_v (pv 1))))) (c_b dd_int)) da_nil))))) da_nil)))) da_nil)))))
      (ss_cons (PS.mono (ps_asg (n_c (dn_tup (da_cons (dd_call (ok_of T) hr (by rfl) T.p_of.g T.p_of.F.kp T.p_of.b pass0 (da_cons (dd_v (pv 0)) (da_cons (n_c (dn_lst (da_cons dd_int (da_cons dd_int (da_cons dd_int (da_cons (dd_pow (c_b dd_int) (c_b dd_int)) da_nil)))))) da_nil))) (da_cons (dd_call (ok_pull T) hr (by rfl) T.p_pull.g T.p_pull.F.kp T.p_pull.b pass0 (da_cons (dd_v (pv 0)) (da_cons dd_int da_nil))) da_nil)))) (PG.mono (pg_tup (by rfl) (PGs.mono (pgs_cons (dg_name (i := 4) sc_windows.nd rfl (Or.inr rfl)) (PGs.mono (pgs_cons (dg_name (i := 5) sc_windows.nd rfl (Or.inr rfl)) dgs_nil) l_gcons)) l_gcons)) (l_gtup rfl))) l_asg)
      (ss_cons (ds_set (i := 6) sc_windows.nd rfl (.inr rfl) (n_c (dn_call (ok_rectangle T) hr (by rfl) T.p_rectangle.g T.p_rectangle.F.kp T.p_rectangle.b pass0 (da_cons (dd_v (pv 0)) (da_cons (dd_v (pv 4)) da_nil)))))
      (ss_cons (PS.mono (ps_setLc (i := 7) (own := [("_law_name", 8)]) (by rfl) sc_windows.nd rfl rfl (sw_true rfl rfl rfl (by decide +kernel)) (db_seq (c_b (dd_v (pv 3)))) (blkOk_by (own := [("_law_name", 8)]) (N := ["_law_bag_here", "_law_least", "_law_most", "_law_names_here", "_law_scale", "_law_way", "_law_one", "_law_rects", "_law_name"]) (sc := defScope s_windows) (by decide +kernel)) (fun _ _ _ _ _ => (dg_name (i := 8) sc_windows.nd rfl (Or.inl rfl))) (fun _ _ _ _ _ => ts_nil) (fun _ _ _ _ _ => (dd_if (PW.pt (wt_or (dt_eq hr (c_b (dd_v (pv 5))) (c_b dd_int)) (wt_or1 (PW.pt (wt_and (dt_eq hr (c_b (dd_v (pv 5))) (c_b dd_int)) (wt_and1 (dt_eq hr (c_b (dd_call (ok_pull T) hr (by rfl) T.p_pull.g T.p_pull.F.kp T.p_pull.b pass0 (da_cons (dd_v (pv 0)) (da_cons dd_int da_nil)))) (c_b dd_int)))))))) (dd_v (pv 6)) (n_c (dn_call (ok_rectangle T) hr (by rfl) T.p_rectangle.g T.p_rectangle.F.kp T.p_rectangle.b pass0 (da_cons (dd_v (pv 0)) (da_cons (dd_v (pv 4)) da_nil))))))) (l_setF_n (l_lc (by simp))))
      (ss_one (ds_retN (PE.mono (RK.pe_dictZip (by rfl) (by rfl) T.m_dict (by rfl) T.m_zip (da_cons (dd_v (pv 3)) (da_cons (dd_v (pv 7)) da_nil))) (l_dictZip rfl)))))))))
    exact ⟨_, tm, fn_d al wn ok dd q (rd_windows sp)⟩
theorem eqS {a b : Str} (h : decide (V.str a = V.str b) = true) : a = b := V.str.inj (of_decide_eq_true h)
theorem neS {a b : Str} (h : ¬ decide (V.str a = V.str b) = true) : ¬ a = b := fun e => h (decide_eq_true (congrArg V.str e))
theorem ok_field (T : Txt K mg) {k : Nat} : FnP P w K mg base CX0 (k + 1) T.p_field.f T.p_field.fd ["_law_e"] (spField K) := by
  refine okP T.p_field.F sc_field (fun p vs H Q E h => ?_) (fun cdv A outer s H vs Q E p hr h => ?_)
  · obtain ⟨rfl, _⟩ := h
    rfl
  · obtain ⟨rfl, C, dd, fs, w, v, e, fo, q⟩ := h
    refine ⟨_, (pss_cons (ps_if (pt_cmpR (r := rIn K false) op_in_seq (RK.pe_xp (List.mem_cons_self) (pv 0)) (pe_lst (pa_cons pe_str (pa_cons pe_str (pa_cons pe_str (pa_cons pe_str pa_nil))))) (by rfl)) (pss_one (ps_ret (RK.pe_xp (List.mem_cons_self) (pv 0)))) pss_nil)
      (pss_cons (ps_if (pt_cmpR (r := rIn K false) op_in_seq (RK.pe_xp (List.mem_cons_self) (pv 0)) (pe_lst (pa_cons pe_str (pa_cons pe_str (pa_cons pe_str (pa_cons pe_str (pa_cons pe_str pa_nil)))))) (by rfl)) (pss_one (ps_ret (RK.pe_xp (List.mem_cons_self) (pv 0)))) pss_nil)
      (pss_cons (ps_if (pt_cmpR (r := rIn K false) op_in_seq (RK.pe_xp (List.mem_cons_self) (pv 0)) (pe_lst (pa_cons pe_str (pa_cons pe_str (pa_cons pe_str pa_nil)))) (by rfl)) (pss_one (ps_ret (RK.pe_xp (List.mem_cons_self) (pv 0)))) pss_nil)
      (pss_cons (ps_if (pt_cmpR (r := rIn K false) op_in_seq (RK.pe_xp (List.mem_cons_self) (pv 0)) (pe_lst (pa_cons pe_str (pa_cons pe_str (pa_cons pe_str pa_nil)))) (by rfl)) (pss_one (ps_ret (pe_ifExp (pt_cmpR op_eq (RK.pe_xp (List.mem_cons_self) (pv 0)) pe_str (nomark _)) (RK.pe_xp (List.mem_cons_self) (pv 0)) (pe_ifExp (pt_cmpR op_eq (RK.pe_xp (List.mem_cons_self) (pv 0)) pe_str (nomark _)) (RK.pe_xp (List.mem_cons_self) (pv 0)) (RK.pe_xp (List.mem_cons_self) (pv 0)))))) pss_nil)
      (pss_one (ps_ret pe_non)))))), ?_⟩
    unfold FieldOf fieldName at fo
    have yes : ∀ {L : List Str} {b : Bool}, inV (.str w) (L.map V.str) = b → b = true → w ∈ L := fun {L b} h hb => by
      rw [in_strs, hb] at h
      exact of_decide_eq_true h
    have no : ∀ {L : List Str}, ¬ inV (.str w) (L.map V.str) = true → w ∉ L := fun {L} h hm => h ((in_strs w L).trans (decide_eq_true hm))
    refine ⟨.ref p.1, rfl, rfl, e.data, C, dd, fs, .str w, e.z, e.xf, e.nw, e.hx, e.lw, (by show 4 ≤ sizeLine; decide), fun l1 n1 => ?_⟩
    have s1 := Sn.new n1 (.lst (lNam.map V.str))
    have e1 := e.same s1.f
    refine ⟨l1, lNam.map V.str, rfl, .inl (SqL.of upd_same), rfl, flat_strs _, _, rfl, ite2 (fun c1 => ?_) (fun c1 => ?_)⟩
    · have c1 : w ∈ lNam := yes rfl c1
      rw [if_pos c1] at fo
      exact ⟨.ref p.1, rfl, rfl, e1.data, C, dd, fs, v, e1.z, e1.xf, fo.1, e1.hx, fo.2, q _ s1⟩
    have c1 : w ∉ lNam := no c1
    rw [if_neg c1] at fo
    refine ⟨.ref p.1, rfl, rfl, e1.data, C, dd, fs, .str w, e1.z, e1.xf, e1.nw, e1.hx, e1.lw, (by show 5 ≤ sizeLine; decide), fun l2 n2 => ?_⟩
    have s2 := s1.trans (Sn.new n2 (.lst (lAt.map V.str)))
    have e2 := e.same s2.f
    refine ⟨l2, lAt.map V.str, rfl, .inl (SqL.of upd_same), rfl, flat_strs _, _, rfl, ite2 (fun c2 => ?_) (fun c2 => ?_)⟩
    · have c2 : w ∈ lAt := yes rfl c2
      rw [if_pos c2] at fo
      exact ⟨.ref p.1, rfl, rfl, e2.data, C, dd, fs, v, e2.z, e2.xf, fo.1, e2.hx, fo.2, q _ s2⟩
    have c2 : w ∉ lAt := no c2
    rw [if_neg c2] at fo
    refine ⟨.ref p.1, rfl, rfl, e2.data, C, dd, fs, .str w, e2.z, e2.xf, e2.nw, e2.hx, e2.lw, (by show 3 ≤ sizeLine; decide), fun l3 n3 => ?_⟩
    have s3 := s2.trans (Sn.new n3 (.lst (lStm.map V.str)))
    have e3 := e.same s3.f
    refine ⟨l3, lStm.map V.str, rfl, .inl (SqL.of upd_same), rfl, flat_strs _, _, rfl, ite2 (fun c3 => ?_) (fun c3 => ?_)⟩
    · have c3 : w ∈ lStm := yes rfl c3
      rw [if_pos c3] at fo
      exact ⟨.ref p.1, rfl, rfl, e3.data, C, dd, fs, v, e3.z, e3.xf, fo.1, e3.hx, fo.2, q _ s3⟩
    have c3 : w ∉ lStm := no c3
    rw [if_neg c3] at fo
    refine ⟨.ref p.1, rfl, rfl, e3.data, C, dd, fs, .str w, e3.z, e3.xf, e3.nw, e3.hx, e3.lw, (by show 3 ≤ sizeLine; decide), fun l4 n4 => ?_⟩
    have s4 := s3.trans (Sn.new n4 (.lst (lNum.map V.str)))
    have e4 := e.same s4.f
    refine ⟨l4, lNum.map V.str, rfl, .inl (SqL.of upd_same), rfl, flat_strs _, _, rfl, ite2 (fun c4 => ?_) (fun c4 => ?_)⟩
    · have c4 : w ∈ lNum := yes rfl c4
      rw [if_pos c4] at fo
      refine ⟨.ref p.1, rfl, rfl, e4.data, C, dd, fs, .str w, e4.z, e4.xf, e4.nw, e4.hx, e4.lw, ?_⟩
      refine ⟨rfl, _, rfl, ite2 (fun d1 => ?_) (fun d1 => ?_)⟩
      · have d1 : w = ("Full" : Str) := eqS d1
        rw [if_pos d1] at fo
        exact ⟨.ref p.1, rfl, rfl, e4.data, C, dd, fs, v, e4.z, e4.xf, fo.1, e4.hx, fo.2, q _ s4⟩
      have d1 : ¬ w = ("Full" : Str) := neS d1
      rw [if_neg d1] at fo
      refine ⟨.ref p.1, rfl, rfl, e4.data, C, dd, fs, .str w, e4.z, e4.xf, e4.nw, e4.hx, e4.lw, ?_⟩
      refine ⟨rfl, _, rfl, ite2 (fun d2 => ?_) (fun d2 => ?_)⟩
      · have d2 : w = ("BadPage" : Str) := eqS d2
        rw [if_pos d2] at fo
        exact ⟨.ref p.1, rfl, rfl, e4.data, C, dd, fs, v, e4.z, e4.xf, fo.1, e4.hx, fo.2, q _ s4⟩
      have d2 : ¬ w = ("BadPage" : Str) := neS d2
      rw [if_neg d2] at fo
      exact ⟨.ref p.1, rfl, rfl, e4.data, C, dd, fs, v, e4.z, e4.xf, fo.1, e4.hx, fo.2, q _ s4⟩
    · have c4 : w ∉ lNum := no c4
      rw [if_neg c4] at fo
      have ev : v = .non := fo
      rw [ev] at q
      exact q _ s4
theorem rh_mark {k : Nat} {A : Around} {v : Value} (h : L2H.RoomH k A) : L2H.RoomH k (A.mark (some v)) := ⟨h.dp, h.un⟩
theorem try_gives {X : Cx} (T : Txt X.K X.mg) {k : Nat} {g : Addr} {cdg : Value} {q : Str} (hr : Room (k + 2) X.A) : LamX.GivesTo X ["_law_ask", "_law_e"] "_law_try" (defScope s_try) g cdg (defBody s_try) "_law_ask" q (TTry X.K T.C_DeskError T.C_Missing T.C_NothingLeft) := by
  intro f c' s H Q tl act hc h
  have hrH : L2H.RoomH (k + 1) ((X.A.deeper (envOfC "_law_try" (defScope s_try) s.heap.objs.size g cdg))) := (L2H.roomH_of (hr.deeper _)).mono (by omega)
  refine ⟨_, pss_one (ps_try_manyAs (X := (cxOf C8.CX0 X.prog X.w X.K X.mg X.base ["_law_ask", "_law_e"] "_law_try" (defScope s_try) g cdg X.A X.stack s H C8.E0).nox) (i := 1) (n := "_law_e")
      (tb := fun W D σ H => ∃ Ech : XK, (∀ cls d σ' H', Ech cls d H' → W cls d σ' H') ∧ σ[0]? = some (some (.ref f)) ∧ H c' = some (LamX.CodeO c' q) ∧ tl Ech H (fun v H1 => [V.str "value", v].length ≤ sizeLine ∧ ∀ t, H1 t = none → D.rt (.ref t) (upd H1 t (.tup [.str "value", v]))))
      rfl rfl sc_try.nd rfl rfl LamX.takes0 (fun W pn xe tk _ => ?_)
      (HdsAs.cons (ts := fun a cls d => tRet (tTup (tCons (tXa X.K a cls d "word" (tVar 1)) (tCons (tFieldA X.K a cls d (tCons (tVar 1) tNil)) tNil)))) (TestOk.two ⟨rfl, by decide, .inl T.g_DeskError⟩ ⟨rfl, by decide, .inl T.g_Missing⟩)
        (fun a oe cls d pn hz hf => pss_one (ps_ret (pe_tup (pa_cons (pe_xa (X := (cxOf C8.CX0 X.prog X.w X.K X.mg X.base ["_law_ask", "_law_e"] "_law_try" (defScope s_try) g cdg X.A X.stack s H C8.E0).nox.suite a ((a, oe) :: pn)) hz hf (List.mem_cons_self) (pv 1)) (pa_cons (pe_fieldA (X := (cxOf C8.CX0 X.prog X.w X.K X.mg X.base ["_law_ask", "_law_e"] "_law_try" (defScope s_try) g cdg X.A X.stack s H C8.E0).nox.suite a ((a, oe) :: pn)) hz hf (ok_field (P := X.prog) (w := X.w) (base := X.base) T (k := k)) ((rh_mark hrH).mono (Nat.le_refl _)) (List.mem_cons_self) (by rfl) T.p_field.g T.p_field.F.kp T.p_field.b (pa_cons (pv 1) pa_nil)) pa_nil)))))
        (HdsAs.cons (ts := fun a cls d => tRet (tTup (tCons (tXa X.K a cls d "word" (tVar 1)) (tCons (tC .non) tNil)))) (TestOk.one ⟨rfl, by decide, .inl T.g_NothingLeft⟩) (fun a oe cls d pn hz hf => pss_one (ps_ret (pe_tup (pa_cons (pe_xa (X := (cxOf C8.CX0 X.prog X.w X.K X.mg X.base ["_law_ask", "_law_e"] "_law_try" (defScope s_try) g cdg X.A X.stack s H C8.E0).nox.suite a ((a, oe) :: pn)) hz hf (List.mem_cons_self) (pv 1)) (pa_cons pe_non pa_nil))))) .nil))), ?_⟩
  · refine ⟨fun pins s' σ H' D I h' => ?_⟩
    obtain ⟨Ech, hW, h1, h2, h3⟩ := h'
    exact PSs.run (pss_one (ps_ret (pe_tup (pa_cons pe_str (pa_cons (act W pn xe Ech _ _ tk hW) pa_nil))))) pins s' σ H' D I ⟨h1, h2, h3⟩
  · refine ⟨_, fun cls d σ' H' hE => ?_, rfl, hc, h⟩
    obtain ⟨C, dd, fs, w, ⟨ec, ed, xf, nw, hx, lw⟩, hE⟩ := hE
    subst ec
    subst ed
    rcases hE with ⟨m1, v, fo, q1⟩ | ⟨m1, m2, q1⟩
    · refine ⟨true, m1, fun _ a na hl => ?_, fun hb => Bool.noConfusion hb⟩
      refine ⟨.ref a, ?_, rfl, C, dd, fs, .str w, rfl, rfl, xf, nw, hx, lw, .ref a, ?_, rfl, C, dd, fs, w, v, ⟨rfl, rfl, xf, nw, hx, lw⟩, fo, fun H2 s2 => ⟨(by show 2 ≤ sizeLine; decide), fun t nt => q1 H2 t s2 nt⟩⟩
      · exact List.getElem?_set_self hl
      · exact List.getElem?_set_self hl
    · refine ⟨false, m1, fun hb => Bool.noConfusion hb, fun _ => ⟨true, m2, fun _ a na hl => ?_, fun hb => Bool.noConfusion hb⟩⟩
      refine ⟨.ref a, ?_, rfl, C, dd, fs, .str w, rfl, rfl, xf, nw, hx, lw, (by show 2 ≤ sizeLine; decide), fun t nt => q1 t nt⟩
      exact List.getElem?_set_self hl
theorem ok_due (T : Txt K mg) {k : Nat} : FnOk P w K mg base CX0 (k + 1) T.p_due.f T.p_due.fd ["_law_rects"] (lSp K false sp_dueW) := by
  refine T.p_due.F.ok sc_due (fun vs H Q E h => ?_) (fun cdv A outer s H vs Q E hr h => ?_)
  · obtain ⟨W, N0, ds, Pd, _, _, _, dd, sp, _⟩ := h
    rw [dd.len]
    exact ln_dueW sp
  · obtain ⟨W, N0, ds, Pd, al, wn, ok, dd, sp, q⟩ := h
    have tm : PSs (cxOf CX0 P w K mg base ["_law_rects", "_law_letters", "_law_name", "_law_bad", "_law_left", "_law_top", "_law_right", "_law_bottom", "_law_number", "_law_sign"] "_law_due" (defScope s_due) T.p_due.f cdv A outer s H E).nox (defBody s_due) (lS ⟨K, W, N0, H, false⟩ (d_dueW)) := ((ss_cons (ds_if (dt_not (dt_lele (c_b dd_int) (c_b (dd_len (by rfl) T.m_len (c_b (dd_v (pv 0))))) (c_b dd_int))) (ss_one (ds_ret (by rfl) (n_c (dn_tup (da_cons dd_str (da_cons dd_non da_nil)))))) ss_nil)
      (ss_cons (ds_set (i := 1) sc_due.nd rfl (.inr rfl) dd_str)
      (ss_cons (PS.mono (ps_setLc (i := 3) (own := [("_law_name", 2)]) (by rfl) sc_due.nd rfl rfl (sw_true rfl rfl rfl (by decide +kernel)) (db_seq (c_b (n_c (dn_sort (by rfl) T.m_sorted (c_b (dd_v (pv 0))))))) (blkOk_by (own := [("_law_name", 2)]) (N := ["_law_rects", "_law_letters", "_law_name", "_law_bad", "_law_left", "_law_top", "_law_right", "_law_bottom", "_law_number", "_law_sign"]) (sc := defScope s_due) (by decide +kernel)) (fun _ _ _ _ _ => (dg_name (i := 2) sc_due.nd rfl (Or.inl rfl))) (fun _ _ _ _ _ => (ts_one (dt_not (PW.pt (wt_and (dt_ltlt (c_b dd_int) (c_b (dd_len (by rfl) T.m_len (c_b (dd_v (pv 2))))) (c_b dd_int)) (wt_and1 (dt_val (dd_all (by rfl) T.m_all (c_b (n_c (PE.mono (pe_lc (own := [("_law_sign", 9)]) (by rfl) sc_due.nd (db_seq (c_b (dd_v (pv 2)))) (blkOk_by (own := [("_law_sign", 9)]) (N := ["_law_rects", "_law_letters", "_law_name", "_law_bad", "_law_left", "_law_top", "_law_right", "_law_bottom", "_law_number", "_law_sign"]) (by kernel_rfl)) (fun _ _ _ _ _ => (dg_name (i := 9) sc_due.nd rfl (Or.inl rfl))) (fun _ _ _ _ _ => ts_nil) (fun _ _ _ _ _ => (dd_in hr (c_b (dd_v (pv 9))) (c_b (dd_v (pv 1)))))) (l_lc (by simp))))))))))))) (fun _ _ _ _ _ => (dd_v (pv 2)))) (l_setF_n (l_lc (by simp))))
      (ss_cons (ds_if (dt_ne hr (c_b (dd_v (pv 3))) (c_b (n_c (dn_lst da_nil)))) (ss_one (ds_ret (by rfl) (n_c (dn_tup (da_cons dd_str (da_cons (dd_ix hr (c_b (dd_v (pv 3))) (c_b dd_int)) da_nil)))))) ss_nil)
      (ss_cons (ds_for PassesOwn.never rfl (di_seq (n_c (dn_sort (by rfl) T.m_sorted (c_b (dd_v (pv 0)))))) (dg_name (i := 2) sc_due.nd rfl (Or.inl rfl)) (ss_cons (PS.mono (ps_asg (dd_ix hr (c_b (dd_v (pv 0))) (c_b (dd_v (pv 2)))) (PG.mono (pg_tup (by rfl) (PGs.mono (pgs_cons (dg_name (i := 4) sc_due.nd rfl (Or.inl rfl)) (PGs.mono (pgs_cons (dg_name (i := 5) sc_due.nd rfl (Or.inl rfl)) (PGs.mono (pgs_cons (dg_name (i := 6) sc_due.nd rfl (Or.inl rfl)) (PGs.mono (pgs_cons (dg_name (i := 7) sc_due.nd rfl (Or.inl rfl)) dgs_nil) l_gcons)) l_gcons)) l_gcons)) l_gcons)) (l_gtup rfl))) l_asg)
      (ss_one (ds_if (PW.pt (wt_or (dt_not (dt_lt (c_b (dd_v (pv 4))) (c_b (dd_v (pv 6))))) (wt_or (dt_not (dt_lt (c_b (dd_v (pv 5))) (c_b (dd_v (pv 7))))) (wt_or1 (dt_gt (c_b (dd_maxL (by rfl) T.m_max (n_c (PE.mono (pe_lc (own := [("_law_number", 8)]) (by rfl) sc_due.nd (db_seq (c_b (dd_ix hr (c_b (dd_v (pv 0))) (c_b (dd_v (pv 2)))))) (blkOk_by (own := [("_law_number", 8)]) (N := ["_law_rects", "_law_letters", "_law_name", "_law_bad", "_law_left", "_law_top", "_law_right", "_law_bottom", "_law_number", "_law_sign"]) (sc := defScope s_due) (by decide +kernel)) (fun _ _ _ _ _ => (dg_name (i := 8) sc_due.nd rfl (Or.inl rfl))) (fun _ _ _ _ _ => ts_nil) (fun _ _ _ _ _ => (dd_abs (by rfl) T.m_abs (c_b (dd_v (pv 8)))))) (l_lc (by simp)))))) (c_b (dd_pow (c_b dd_int) (c_b dd_int)))))))) (ss_one (ds_ret (by rfl) (n_c (dn_tup (da_cons dd_str (da_cons (dd_v (pv 2)) da_nil)))))) ss_nil))))
      (ss_one (ds_ret (by rfl) (n_c (dn_tup (da_cons dd_str (da_cons (dd_len (by rfl) T.m_len (c_b (dd_v (pv 0)))) da_nil))))))))))))
    exact ⟨_, tm, fn_d al wn ok dd q (rd_dueW sp)⟩
theorem ok_law (T : Txt K mg) {c PT : Addr} {oc kV doc pm ct : Value} {an od : Option Addr} {osl : Array (Option Value)} (TB : LamX.TabB base mg c PT) (lkL : K.lookup T.f_law = some ⟨oc, od, .func (PySem.W.fnOf "law" "law" (defArgs s_law) (defBody s_law) (defScope s_law) .none kV doc pm an (.ref c) ct), osl⟩) (hcL : PySem.W.codeIn K (.ref c) "law" = true) :
    RK.FnAt P w K mg base CX0 callerA T.f_law (PySem.W.fnOf "law" "law" (defArgs s_law) (defBody s_law) (defScope s_law) .none kV doc pm an (.ref c) ct) ["_law_script"] (DL.spLawT K [(c, PT)]) := by
  obtain ⟨oc2, od2, kV2, doc2, pm2, an2, cdt, ct2, osl2, efd, lk, hcg⟩ := T.p_try.F.ex
  have bt := T.p_try.b
  rw [efd] at lk bt
  refine DL.fn_atC (k := 10) lkL hcL sc_law ⟨rfl, by decide, by decide⟩ (fun vs H Q E h => ?_) (fun outer s H vs Q E hr h => ?_)
  · obtain ⟨a, ns, rfl, _⟩ := h
    rfl
  · obtain ⟨a, ns, rfl, hO, hS, hlen, q⟩ := h
    have hcl : ∀ k ∈ ([(T.C_BadName, "BadName", some "name"), (T.C_BadRectangle, "BadRectangle", some "name"), (T.C_BadSize, "BadSize", none), (T.C_Unknown, "Unknown", some "name"), (T.C_NothingLeft, "NothingLeft", none)] : ErCl), ClOk K T.C_DeskError T.C_Missing T.C_NothingLeft k := (cl_cons (cl_1 T.xf_BadName T.nx_BadName_word T.nx_BadName_name T.xm_BadName) (cl_cons (cl_1 T.xf_BadRectangle T.nx_BadRectangle_word T.nx_BadRectangle_name T.xm_BadRectangle) (cl_cons (cl_0 T.xf_BadSize T.nx_BadSize_word T.xm_BadSize) (cl_cons (cl_1 T.xf_Unknown T.nx_Unknown_word T.nx_Unknown_name T.xm_Unknown) (cl_cons (cl_L T.xf_NothingLeft T.nx_NothingLeft_word T.xm_NothingLeft T.xn_NothingLeft) cl_nil)))))
    obtain ⟨TT, eTT⟩ : ∃ TT : List (Addr × Str), TT = lamT [(c, PT)] (("law.<locals>." : Str) ++ "<lambda>") := ⟨_, rfl⟩
    have hmT : (PT, (("law.<locals>." : Str) ++ "<lambda>")) ∈ TT := by rw [eTT]; exact List.mem_cons_self
    have neT : TT ≠ [] := by rw [eTT]; simp
    have huT : ∀ p ∈ TT, p.1 = PT → p.2 = (("law.<locals>." : Str) ++ "<lambda>") := fun p hp _ => by
      rw [eTT] at hp
      rw [List.mem_singleton.mp hp]
    have tm : ∀ b s0 N0 H0, PSs (cxOf CX0 P w K mg base ["_law_script", "_law_bag_here", "_law_turn", "_law_rects", "_law_step", "_law_odd", "_law_at", "_law_left", "_law_top", "_law_right", "_law_bottom", "_law_some", "_law_copied", "_law_found", "_law_great", "_law_handed", "_law_count", "_law_name"] "law" (defScope s_law) T.f_law (.ref c) callerA outer s H E).nox ((defBody s_law).drop 1) (lS ⟨K, some (b, s0, TT), N0, H0, false⟩ (d_law (cls T))) := fun b s0 N0 H0 => ((ss_cons (ds_for PassesOwn.never rfl (di_rng (by rfl) T.m_range (da_cons dd_int da_nil)) (dg_name (i := 2) sc_law.nd rfl (Or.inl rfl)) (ss_cons (ds_setO (i := 3) sc_law.nd rfl (.inl rfl) (dn_call (ok_windows T) hr (by rfl) T.p_windows.g T.p_windows.F.kp T.p_windows.b pass0 (da_cons (dd_v (pv 1)) (da_cons dd_int (da_cons dd_int da_nil)))))
      (ss_cons (ds_for PassesOwn.never rfl (di_rng (by rfl) T.m_range (da_cons (dd_call (ok_pull T) hr (by rfl) T.p_pull.g T.p_pull.F.kp T.p_pull.b pass0 (da_cons (dd_v (pv 1)) (da_cons dd_int da_nil))) da_nil)) (dg_name (i := 4) sc_law.nd rfl (Or.inl rfl)) (ss_cons (ds_set (i := 5) sc_law.nd rfl (.inl rfl) (dd_call (ok_of T) hr (by rfl) T.p_of.g T.p_of.F.kp T.p_of.b pass0 (da_cons (dd_v (pv 1)) (da_cons (n_c (dn_lst (da_cons dd_str (da_cons dd_str (da_cons dd_str (da_cons dd_str (da_cons dd_str (da_cons dd_str (da_cons dd_str da_nil))))))))) da_nil))))
      (ss_cons (PS.mono (ps_dput (hu_of hr) (pv 3) (dd_v (pv 5)) (n_c (dn_call (ok_rectangle T) hr (by rfl) T.p_rectangle.g T.p_rectangle.F.kp T.p_rectangle.b pass0 (da_cons (dd_v (pv 1)) (da_cons dd_int da_nil)))) rfl) l_dput)
      (ss_cons (ds_set (i := 6) sc_law.nd rfl (.inl rfl) (dd_call (ok_of T) hr (by rfl) T.p_of.g T.p_of.F.kp T.p_of.b pass0 (da_cons (dd_v (pv 1)) (da_cons (n_c (dn_sort (by rfl) T.m_sorted (dd_b (pv 3)))) da_nil))))
      (ss_cons (PS.mono (ps_asg (dd_ix hr (dd_b (pv 3)) (c_b (dd_v (pv 6)))) (PG.mono (pg_tup (by rfl) (PGs.mono (pgs_cons (dg_name (i := 7) sc_law.nd rfl (Or.inl rfl)) (PGs.mono (pgs_cons (dg_name (i := 8) sc_law.nd rfl (Or.inl rfl)) (PGs.mono (pgs_cons (dg_name (i := 9) sc_law.nd rfl (Or.inl rfl)) (PGs.mono (pgs_cons (dg_name (i := 10) sc_law.nd rfl (Or.inl rfl)) dgs_nil) l_gcons)) l_gcons)) l_gcons)) l_gcons)) (l_gtup rfl))) l_asg)
      (ss_cons (ds_set (i := 11) sc_law.nd rfl (.inl rfl) (n_c (dn_lst (da_cons (n_c (dn_tup (da_cons (dd_v (pv 7)) (da_cons (dd_v (pv 8)) (da_cons (dd_v (pv 7)) (da_cons (dd_v (pv 10)) da_nil)))))) (da_cons (n_c (dn_tup (da_cons (dd_v (pv 7)) (da_cons (dd_v (pv 8)) (da_cons (dd_v (pv 9)) (da_cons (dd_add (c_b (dd_pow (c_b dd_int) (c_b dd_int))) (c_b dd_int)) da_nil)))))) (da_cons (n_c (dn_tup (da_cons (dd_v (pv 7)) (da_cons (dd_v (pv 10)) (da_cons (dd_v (pv 9)) (da_cons (dd_v (pv 8)) da_nil)))))) (da_cons (dd_ix hr (dd_b (pv 3)) (c_b (dd_v (pv 6)))) da_nil)))))))
      (ss_one (PS.mono (ps_dput (hu_of hr) (pv 3) (dd_v (pv 6)) (dd_call (ok_of T) hr (by rfl) T.p_of.g T.p_of.F.kp T.p_of.b pass0 (da_cons (dd_v (pv 1)) (da_cons (dd_add (c_b (dd_v (pv 11))) (c_b (dd_mul (c_b (n_c (dn_lst (da_cons (dd_ix hr (dd_b (pv 3)) (c_b (dd_v (pv 6)))) da_nil)))) (c_b dd_int)))) da_nil))) rfl) l_dput))))))))
      (ss_cons (ds_setO (i := 15) sc_law.nd rfl (.inr rfl) (dn_dictP (by rfl) (by rfl) T.m_dict (c_b (n_c (dn_call (ok_mixed T) hr (by rfl) T.p_mixed.g T.p_mixed.F.kp T.p_mixed.b pass0 (da_cons (dd_v (pv 1)) (da_cons (n_c (dn_items (LiI.pe_listItems rfl (pv 3) (by rfl) T.m_list rfl))) da_nil)))))))
      (ss_cons (ds_set (i := 12) sc_law.nd rfl (.inl rfl) (n_c (dn_items (LiI.pe_listItems rfl (pv 15) (by rfl) T.m_list rfl))))
      (ss_one (ds_if (PW.pt (wt_or (dt_not (dt_val (dd_call (ok_like T) hr (by rfl) T.p_like.g T.p_like.F.kp T.p_like.b pass0 (da_cons (dd_lendT (i := 15) (n_c (PE.mono (RK.pe_lamT (T := TT) (x := "_law_try") (a := "_law_ask") (by rfl) T.p_try.g T.p_try.F.kp lk hcg bt sc_try rfl (Or.inl rfl) (try_gives T hr) TB rfl hmT huT hr (LamX.lamS_by (by show LamX.lamSB (defScope s_law) _ = true; decide +kernel)) (by rfl) (fun _ _ _ _ _ => rfl) (fun A outer s H E f c hrl => tryB_of (F := ⟨K, some (b, s0, TT), N0, H0, false⟩) fun N0 H0 PX hE => (dd_lenO (ok_Desk___len T) hrl T.p_Desk___len.s T.p_Desk___len.i T.p_Desk___len.b pass0 (by rfl) T.m_len (PE.mono (pe_make T.M_Desk (okx_Desk___init T) hrl (by rfl) T.g_Desk T.p_Desk___init.b .nil (passes_call (takes_of rfl rfl rfl rfl) (fun _ _ _ _ h => h)) (da_cons (dd_v (pv 15)) da_nil)) (l_makeX hE rfl))))) (l_try rfl neT (by exact hcl))))) (da_cons (dd_lendT (i := 3) (dd_call (ok_due T) hr (by rfl) T.p_due.g T.p_due.F.kp T.p_due.b pass0 (da_cons (dd_v (pv 3)) da_nil))) da_nil))))) (wt_or1 (dt_ne hr (c_b (n_c (dn_items (LiI.pe_listItems rfl (pv 15) (by rfl) T.m_list rfl)))) (c_b (dd_v (pv 12))))))) (ss_one (ds_ret (by rfl) dd_bl)) ss_nil)))))))
      (ds_gr (i := 14) (j := 13) (ps_asg (PE.mono (pe_lc (own := [("_law_count", 16)]) (by rfl) sc_law.nd (db_seq (c_b (n_c (dn_lst (da_cons dd_int (da_cons dd_int da_nil)))))) (blkOk_by (own := [("_law_count", 16)]) (N := ["_law_script", "_law_bag_here", "_law_turn", "_law_rects", "_law_step", "_law_odd", "_law_at", "_law_left", "_law_top", "_law_right", "_law_bottom", "_law_some", "_law_copied", "_law_found", "_law_great", "_law_handed", "_law_count", "_law_name"]) (sc := defScope s_law) (by decide +kernel)) (fun _ _ _ _ _ => (dg_name (i := 16) sc_law.nd rfl (Or.inl rfl))) (fun _ _ _ _ _ => ts_nil) (fun _ _ _ _ _ => (dn_dictP (by rfl) (by rfl) T.m_dict (c_b (n_c (PE.mono (pe_lc (own := [("_law_name", 17)]) (by rfl) sc_law.nd (db_seq (c_b (n_c (dn_call (ok_names T) hr (by rfl) T.p_names.g T.p_names.F.kp T.p_names.b pass0 (da_cons (dd_v (pv 1)) (da_cons (dd_v (pv 16)) da_nil)))))) (blkOk_by (own := [("_law_name", 17)]) (N := ["_law_script", "_law_bag_here", "_law_turn", "_law_rects", "_law_step", "_law_odd", "_law_at", "_law_left", "_law_top", "_law_right", "_law_bottom", "_law_some", "_law_copied", "_law_found", "_law_great", "_law_handed", "_law_count", "_law_name"]) (by kernel_rfl)) (fun _ _ _ _ _ => (dg_name (i := 17) sc_law.nd rfl (Or.inl rfl))) (fun _ _ _ _ _ => ts_nil) (fun _ _ _ _ _ => (n_c (dn_tup (da_cons (dd_v (pv 17)) (da_cons (n_c (dn_tup (da_cons dd_int (da_cons dd_int (da_cons dd_int (da_cons dd_int da_nil)))))) da_nil)))))) (l_lc (by simp)))))))) (l_lcU (by simp))) (pg_name (i := 14) sc_law.nd rfl (.inr rfl)))
      (ps_asg (dn_lst (da_cons (n_c (PE.mono (RK.pe_lamT (T := TT) (x := "_law_try") (a := "_law_ask") (by rfl) T.p_try.g T.p_try.F.kp lk hcg bt sc_try rfl (Or.inl rfl) (try_gives T hr) TB rfl hmT huT hr (LamX.lamS_by (by show LamX.lamSB (defScope s_law) _ = true; decide +kernel)) (by rfl) (fun _ _ _ _ _ => rfl) (fun A outer s H E f c hrl => tryB_of (F := ⟨K, some (b, s0, TT), N0, H0, false⟩) fun N0 H0 PX hE => (dd_lenO (ok_Desk___len T) hrl T.p_Desk___len.s T.p_Desk___len.i T.p_Desk___len.b pass0 (by rfl) T.m_len (PE.mono (pe_make T.M_Desk (okx_Desk___init T) hrl (by rfl) T.g_Desk T.p_Desk___init.b .nil (passes_call (takes_of rfl rfl rfl rfl) (fun _ _ _ _ h => h)) (da_cons (dd_ix hrl (c_b (dd_v (pv 14))) (c_b dd_int)) da_nil)) (l_makeX hE rfl))))) (l_try rfl neT (by exact hcl)))) (da_cons (n_c (PE.mono (RK.pe_lamDT (T := TT) (x := "_law_try") (a := "_law_ask") (a0 := "_law_a") (by rfl) T.p_try.g T.p_try.F.kp lk hcg bt sc_try rfl (Or.inl rfl) (try_gives T hr) TB rfl hmT huT hr (RK.lamD_by (by show RK.lamDB ["_law_script", "_law_bag_here", "_law_turn", "_law_rects", "_law_step", "_law_odd", "_law_at", "_law_left", "_law_top", "_law_right", "_law_bottom", "_law_some", "_law_copied", "_law_found", "_law_great", "_law_handed", "_law_count", "_law_name"] (defScope s_law) _ = true; decide +kernel)) (by rfl) (fun s Q E h => wpAny_Constant_int (h _).1) (fun _ _ _ _ _ _ _ => ⟨_, rfl, rfl⟩) (by decide +kernel) (fun A outer s H E f c hrl => tryB_of (F := ⟨K, some (b, s0, TT), N0, H0, false⟩) fun N0 H0 PX hE => (PE.mono (pe_make T.M_Desk (okx_Desk___init T) hrl (by rfl) T.g_Desk T.p_Desk___init.b .nil (passes_call (takes_of rfl rfl rfl rfl) (fun _ _ _ _ h => h)) (da_cons (dd_ix hrl (c_b (dd_v (pv 14))) (c_b dd_int)) da_nil)) (l_makeX hE rfl)))) (l_try rfl neT (by exact hcl)))) (da_cons (n_c (PE.mono (RK.pe_lamDT (T := TT) (x := "_law_try") (a := "_law_ask") (a0 := "_law_b") (by rfl) T.p_try.g T.p_try.F.kp lk hcg bt sc_try rfl (Or.inl rfl) (try_gives T hr) TB rfl hmT huT hr (RK.lamD_by (by show RK.lamDB ["_law_script", "_law_bag_here", "_law_turn", "_law_rects", "_law_step", "_law_odd", "_law_at", "_law_left", "_law_top", "_law_right", "_law_bottom", "_law_some", "_law_copied", "_law_found", "_law_great", "_law_handed", "_law_count", "_law_name"] (defScope s_law) _ = true; decide +kernel)) (by rfl) (fun s Q E h => wpAny_Constant_int (h _).1) (fun _ _ _ _ _ _ _ => ⟨_, rfl, rfl⟩) (by decide +kernel) (fun A outer s H E f c hrl => tryB_of (F := ⟨K, some (b, s0, TT), N0, H0, false⟩) fun N0 H0 PX hE => (PE.mono (pe_make T.M_Desk (okx_Desk___init T) hrl (by rfl) T.g_Desk T.p_Desk___init.b .nil (passes_call (takes_of rfl rfl rfl rfl) (fun _ _ _ _ h => h)) (da_cons (n_c dn_emp) da_nil)) (l_makeX hE rfl)))) (l_try rfl neT (by exact hcl)))) da_nil)))) (pg_name (i := 13) sc_law.nd rfl (.inl rfl)))
      (ps_dput (hu_of hr) (pe_ix ix_list (pv 14) pe_int (by intro _ _; rfl)) pe_str (n_c (dn_tup (da_cons dd_int (da_cons dd_int (da_cons dd_int (da_cons dd_int da_nil)))))) rfl)
      (ss_cons (ds_app (pv 13) (n_c (PE.mono (RK.pe_lamT (T := TT) (x := "_law_try") (a := "_law_ask") (by rfl) T.p_try.g T.p_try.F.kp lk hcg bt sc_try rfl (Or.inl rfl) (try_gives T hr) TB rfl hmT huT hr (LamX.lamS_by (by show LamX.lamSB (defScope s_law) _ = true; decide +kernel)) (by rfl) (fun _ _ _ _ _ => rfl) (fun A outer s H E f c hrl => tryB_of (F := ⟨K, some (b, s0, TT), N0, H0, false⟩) fun N0 H0 PX hE => (PE.mono (pe_make T.M_Desk (okx_Desk___init T) hrl (by rfl) T.g_Desk T.p_Desk___init.b .nil (passes_call (takes_of rfl rfl rfl rfl) (fun _ _ _ _ h => h)) (da_cons (dd_ix hrl (c_b (dd_v (pv 14))) (c_b dd_int)) da_nil)) (l_makeX hE rfl)))) (l_try rfl neT (by exact hcl)))))
      (ss_one (ds_ret (by rfl) (dd_and (dd_eq hr (dd_b (pv 13)) (c_b (dd_add (c_b (n_c (dn_lst (da_cons (n_c (dn_tup (da_cons dd_str (da_cons dd_int da_nil)))) da_nil)))) (c_b (dd_mul (c_b (n_c (dn_lst (da_cons (n_c (dn_tup (da_cons dd_str (da_cons dd_non da_nil)))) da_nil)))) (c_b dd_int)))))) (dd_one (dd_eq hr (c_b (c_lift (x := .int 24) (pe_glob (v := .int 24) (by rfl) T.c_MOST_WINDOWS ⟨_, rfl⟩) (fun _ _ _ _ => .int _))) (c_b dd_int))))))))))
    refine ⟨_, pss_cons (ps_set (i := 1) sc_law.nd rfl (.inr rfl) (pe_call (okb_bag T) hr (by rfl) T.p_bag.g T.p_bag.F.kp T.p_bag.b .nil pass0 (pa_cons (pv 0) pa_nil))) (pss_exT tm), ?_⟩
    refine ⟨.ref a, rfl, a, ns, rfl, hS, hlen, fun H1 b s0 e0 nb ns0 B0 => ?_⟩
    rw [eTT]
    exact law_bagT (n := 16) hO e0 nb B0 q (rd_law (c := cls T))
end
theorem all_mk {l : PySem.W.OpenLaw} {w : World} {K : PySem.W.Frag} {h : Heap} {mg : Str → Option Value} {fa : Addr} (X : K.In h) (G : h.Ns mainGlobals mg) (hfa : mg "law" = some (.ref fa))
    {C_Desk : Addr} (aC_Desk : PySem.W.nsIn K mainGlobals "Desk" = some (some (.ref C_Desk)))
    (p0 : FT K mg "is_rectangle" "is_rectangle" s_is_rectangle ["rectangle"])
    (p1 : FT K mg "has_four_numbers" "has_four_numbers" s_has_four_numbers ["value"])
    (p2 : FT K mg "is_name" "is_name" s_is_name ["text"])
    (p3 : FT K mg "check_windows" "check_windows" s_check_windows ["windows"])
    (p4 : FT K mg "_law_bag" "_law_bag" s_bag ["_law_script"])
    (p5 : FT K mg "_law_pull" "_law_pull" s_pull ["_law_bag_here", "_law_amount"])
    (p6 : FT K mg "_law_of" "_law_of" s_of ["_law_bag_here", "_law_things"])
    (p7 : FT K mg "_law_like" "_law_like" s_like ["_law_found", "_law_due_here"])
    (p8 : FT K mg "_law_mixed" "_law_mixed" s_mixed ["_law_bag_here", "_law_things"])
    (p9 : FT K mg "_law_names" "_law_names" s_names ["_law_bag_here", "_law_count"])
    (p10 : FT K mg "_law_rectangle" "_law_rectangle" s_rectangle ["_law_bag_here", "_law_scale"])
    (p11 : FT K mg "_law_windows" "_law_windows" s_windows ["_law_bag_here", "_law_least", "_law_most"])
    (p12 : FT K mg "_law_field" "_law_field" s_field ["_law_e"])
    (p13 : FT K mg "_law_try" "_law_try" s_try ["_law_ask"])
    (p14 : FT K mg "_law_due" "_law_due" s_due ["_law_rects"])
    {f15 c_law P_law : Addr} {od15 an15 odc_law : Option Addr} {sl15 slc_law : Array (Option Value)} {vsc_law : Array Value} {oc15 kV15 dc15 pm15 ct15 : Value}
    (a15 : PySem.W.nsIn K mainGlobals "law" = some (some (.ref f15)))
    (l15 : K.lookup f15 = some ⟨oc15, od15, .func (PySem.W.fnOf "law" "law" (defArgs s_law) (defBody s_law) (defScope s_law) .none kV15 dc15 pm15 an15 (.ref c_law) ct15), sl15⟩) (c15 : PySem.W.codeIn K (.ref c_law) "law" = true) (k15 : PySem.W.keepIn K (.ref f15) = true)
    (tlc : K.lookup c_law = some ⟨.type "code", odc_law, .fields vsc_law, slc_law⟩) (tpc : vsc_law[11]? = some (.ref P_law)) (tch : PySem.W.codeHdIn K c_law P_law = true) (tnp : K.lookup P_law = none) (ttp : h.get? P_law = some RK.tab0)
    (p16 : MT K C_Desk "__init__" "Desk.__init__" s_Desk___init ["self", "windows"])
    (p17 : MT K C_Desk "__len__" "Desk.__len__" s_Desk___len ["self"])
    (pg_Desk : PySem.W.plainGet K C_Desk Str.empty = true) (hd_Desk : PySem.W.hasDictIn K C_Desk = true) (po_Desk : PySem.W.plainOver K C_Desk = true) (sa_Desk : PySem.W.findIn K (.ref C_Desk) "__setattr__" = some (some (.builtin "object.__setattr__"))) (mk_Desk : PySem.W.makesIn K C_Desk = true) (kc_Desk : PySem.W.keepIn K (.ref C_Desk) = true)
    (nf_Desk_windows : PySem.W.findIn K (.ref C_Desk) "windows" = some none)
    (ic1_Desk : PySem.W.findIn K (.ref C_Desk) "__class__" = some (some (.builtin "object.__class__"))) (ic2_Desk : PySem.W.specialIn K (.builtin "object.__class__") "__get__" = some (some (.builtin "getset_descriptor.__get__"))) (ic3_Desk : PySem.W.takesIn K (.builtin "object.__class__") = some true) (ic4_Desk : PySem.W.mroIn K C_Desk (.type "object") = some true) (ic5_Desk : PySem.W.isClsIn K C_Desk = true) (ic6_Desk : PySem.W.typeIn K (.ref C_Desk) = some (.type "type"))
    (ne_Desk : PySem.W.findIn K (.ref C_Desk) "__ne__" = some (some (.builtin "object.__ne__")))
    (sub_dict_Desk : PySem.W.subIn K (.type "dict") (.ref C_Desk) = some false)
    (sub_list_Desk : PySem.W.subIn K (.type "list") (.ref C_Desk) = some false)
    {C_DeskError : Addr} (aC_DeskError : PySem.W.nsIn K mainGlobals "DeskError" = some (some (.ref C_DeskError)))
    {fx_DeskError : Addr} {odx_DeskError anx_DeskError : Option Addr} {slx_DeskError : Array (Option Value)} {ocx_DeskError kVx_DeskError dcx_DeskError pmx_DeskError cdx_DeskError ctx_DeskError : Value}
    (ax_DeskError : PySem.W.findIn K (.ref C_DeskError) "__init__" = some (some (.ref fx_DeskError)))
    {dt_DeskError : Addr}
    (lx_DeskError : K.lookup fx_DeskError = some ⟨ocx_DeskError, odx_DeskError, .func (PySem.W.fnOf "__init__" "DeskError.__init__" (defArgs s_DeskError___init) (defBody s_DeskError___init) (defScope s_DeskError___init) (.ref dt_DeskError) kVx_DeskError dcx_DeskError pmx_DeskError anx_DeskError cdx_DeskError ctx_DeskError), slx_DeskError⟩) (cx_DeskError : PySem.W.codeIn K cdx_DeskError "DeskError.__init__" = true) (kx_DeskError : PySem.W.keepIn K (.ref fx_DeskError) = true)
    {ow_DeskError : Value} {od2_DeskError : Option Addr} {sl2_DeskError : Array (Option Value)} {n2_DeskError : Nat} {t1_DeskError t2_DeskError : Tok} (ld_DeskError : K.lookup dt_DeskError = some ⟨ow_DeskError, od2_DeskError, .seq #[.str "DeskError" t1_DeskError, .str "a value is wrong" t2_DeskError] n2_DeskError, sl2_DeskError⟩)
    (e1_DeskError : PySem.W.excInitIn K C_DeskError PySem.OEG.bdV.bm PySem.OEG.bdV.newId = true) (e2_DeskError : PySem.W.hasDictIn K C_DeskError = true) (e3_DeskError : PySem.W.findIn K (.ref C_DeskError) "__setattr__" = some (some (.builtin "object.__setattr__"))) (e4_DeskError : PySem.W.subIn K (.ref C_DeskError) (.type "BaseException") = some true) (e5_DeskError : PySem.W.typeIn K (.ref C_DeskError) = some (.type "type")) (e6_DeskError : PySem.W.keepIn K (.ref C_DeskError) = true) (e7_DeskError : PySem.W.typeIn K (.ref fx_DeskError) = some (.type "function"))
    (nx_DeskError_word : PySem.W.findIn K (.ref C_DeskError) "word" = some none)
    (r1_DeskError : PySem.W.readsIn K C_DeskError (.type "type") = true) (r2_DeskError : PySem.W.specialIn K (.ref C_DeskError) "__getattribute__" = some (some (.builtin "type.__getattribute__"))) (ci_DeskError : PySem.W.findCls K (.ref C_DeskError) (.type "type") "__init__" = some (.val (.ref fx_DeskError)))
    (g1_DeskError : PySem.W.findIn K (.ref C_DeskError) "__getattribute__" = some (some (.builtin "BaseException.__getattribute__"))) (g2_DeskError : PySem.W.findIn K (.ref C_DeskError) "__getattr__" = some none)
    {C_BadName : Addr} (aC_BadName : PySem.W.nsIn K mainGlobals "BadName" = some (some (.ref C_BadName)))
    {fx_BadName : Addr} {odx_BadName anx_BadName : Option Addr} {slx_BadName : Array (Option Value)} {ocx_BadName kVx_BadName dcx_BadName pmx_BadName cdx_BadName ctx_BadName : Value}
    (ax_BadName : PySem.W.findIn K (.ref C_BadName) "__init__" = some (some (.ref fx_BadName)))
    (lx_BadName : K.lookup fx_BadName = some ⟨ocx_BadName, odx_BadName, .func (PySem.W.fnOf "__init__" "BadName.__init__" (defArgs s_BadName___init) (defBody s_BadName___init) (defScope s_BadName___init) .none kVx_BadName dcx_BadName pmx_BadName anx_BadName cdx_BadName ctx_BadName), slx_BadName⟩) (cx_BadName : PySem.W.codeIn K cdx_BadName "BadName.__init__" = true) (kx_BadName : PySem.W.keepIn K (.ref fx_BadName) = true)
    (e1_BadName : PySem.W.excInitIn K C_BadName PySem.OEG.bdV.bm PySem.OEG.bdV.newId = true) (e2_BadName : PySem.W.hasDictIn K C_BadName = true) (e3_BadName : PySem.W.findIn K (.ref C_BadName) "__setattr__" = some (some (.builtin "object.__setattr__"))) (e4_BadName : PySem.W.subIn K (.ref C_BadName) (.type "BaseException") = some true) (e5_BadName : PySem.W.typeIn K (.ref C_BadName) = some (.type "type")) (e6_BadName : PySem.W.keepIn K (.ref C_BadName) = true) (e7_BadName : PySem.W.typeIn K (.ref fx_BadName) = some (.type "function"))
    (nx_BadName_word : PySem.W.findIn K (.ref C_BadName) "word" = some none)
    (nx_BadName_name : PySem.W.findIn K (.ref C_BadName) "name" = some none)
    (r1_BadName : PySem.W.readsIn K C_BadName (.type "type") = true) (r2_BadName : PySem.W.specialIn K (.ref C_BadName) "__getattribute__" = some (some (.builtin "type.__getattribute__"))) (ci_BadName : PySem.W.findCls K (.ref C_BadName) (.type "type") "__init__" = some (.val (.ref fx_BadName)))
    (g1_BadName : PySem.W.findIn K (.ref C_BadName) "__getattribute__" = some (some (.builtin "BaseException.__getattribute__"))) (g2_BadName : PySem.W.findIn K (.ref C_BadName) "__getattr__" = some none)
    {C_BadRectangle : Addr} (aC_BadRectangle : PySem.W.nsIn K mainGlobals "BadRectangle" = some (some (.ref C_BadRectangle)))
    {fx_BadRectangle : Addr} {odx_BadRectangle anx_BadRectangle : Option Addr} {slx_BadRectangle : Array (Option Value)} {ocx_BadRectangle kVx_BadRectangle dcx_BadRectangle pmx_BadRectangle cdx_BadRectangle ctx_BadRectangle : Value}
    (ax_BadRectangle : PySem.W.findIn K (.ref C_BadRectangle) "__init__" = some (some (.ref fx_BadRectangle)))
    (lx_BadRectangle : K.lookup fx_BadRectangle = some ⟨ocx_BadRectangle, odx_BadRectangle, .func (PySem.W.fnOf "__init__" "BadRectangle.__init__" (defArgs s_BadRectangle___init) (defBody s_BadRectangle___init) (defScope s_BadRectangle___init) .none kVx_BadRectangle dcx_BadRectangle pmx_BadRectangle anx_BadRectangle cdx_BadRectangle ctx_BadRectangle), slx_BadRectangle⟩) (cx_BadRectangle : PySem.W.codeIn K cdx_BadRectangle "BadRectangle.__init__" = true) (kx_BadRectangle : PySem.W.keepIn K (.ref fx_BadRectangle) = true)
    (e1_BadRectangle : PySem.W.excInitIn K C_BadRectangle PySem.OEG.bdV.bm PySem.OEG.bdV.newId = true) (e2_BadRectangle : PySem.W.hasDictIn K C_BadRectangle = true) (e3_BadRectangle : PySem.W.findIn K (.ref C_BadRectangle) "__setattr__" = some (some (.builtin "object.__setattr__"))) (e4_BadRectangle : PySem.W.subIn K (.ref C_BadRectangle) (.type "BaseException") = some true) (e5_BadRectangle : PySem.W.typeIn K (.ref C_BadRectangle) = some (.type "type")) (e6_BadRectangle : PySem.W.keepIn K (.ref C_BadRectangle) = true) (e7_BadRectangle : PySem.W.typeIn K (.ref fx_BadRectangle) = some (.type "function"))
    (nx_BadRectangle_word : PySem.W.findIn K (.ref C_BadRectangle) "word" = some none)
    (nx_BadRectangle_name : PySem.W.findIn K (.ref C_BadRectangle) "name" = some none)
    (r1_BadRectangle : PySem.W.readsIn K C_BadRectangle (.type "type") = true) (r2_BadRectangle : PySem.W.specialIn K (.ref C_BadRectangle) "__getattribute__" = some (some (.builtin "type.__getattribute__"))) (ci_BadRectangle : PySem.W.findCls K (.ref C_BadRectangle) (.type "type") "__init__" = some (.val (.ref fx_BadRectangle)))
    (g1_BadRectangle : PySem.W.findIn K (.ref C_BadRectangle) "__getattribute__" = some (some (.builtin "BaseException.__getattribute__"))) (g2_BadRectangle : PySem.W.findIn K (.ref C_BadRectangle) "__getattr__" = some none)
    {C_BadSize : Addr} (aC_BadSize : PySem.W.nsIn K mainGlobals "BadSize" = some (some (.ref C_BadSize)))
    {fx_BadSize : Addr} {odx_BadSize anx_BadSize : Option Addr} {slx_BadSize : Array (Option Value)} {ocx_BadSize kVx_BadSize dcx_BadSize pmx_BadSize cdx_BadSize ctx_BadSize : Value}
    (ax_BadSize : PySem.W.findIn K (.ref C_BadSize) "__init__" = some (some (.ref fx_BadSize)))
    (lx_BadSize : K.lookup fx_BadSize = some ⟨ocx_BadSize, odx_BadSize, .func (PySem.W.fnOf "__init__" "BadSize.__init__" (defArgs s_BadSize___init) (defBody s_BadSize___init) (defScope s_BadSize___init) .none kVx_BadSize dcx_BadSize pmx_BadSize anx_BadSize cdx_BadSize ctx_BadSize), slx_BadSize⟩) (cx_BadSize : PySem.W.codeIn K cdx_BadSize "BadSize.__init__" = true) (kx_BadSize : PySem.W.keepIn K (.ref fx_BadSize) = true)
    (e1_BadSize : PySem.W.excInitIn K C_BadSize PySem.OEG.bdV.bm PySem.OEG.bdV.newId = true) (e2_BadSize : PySem.W.hasDictIn K C_BadSize = true) (e3_BadSize : PySem.W.findIn K (.ref C_BadSize) "__setattr__" = some (some (.builtin "object.__setattr__"))) (e4_BadSize : PySem.W.subIn K (.ref C_BadSize) (.type "BaseException") = some true) (e5_BadSize : PySem.W.typeIn K (.ref C_BadSize) = some (.type "type")) (e6_BadSize : PySem.W.keepIn K (.ref C_BadSize) = true) (e7_BadSize : PySem.W.typeIn K (.ref fx_BadSize) = some (.type "function"))
    (nx_BadSize_word : PySem.W.findIn K (.ref C_BadSize) "word" = some none)
    (r1_BadSize : PySem.W.readsIn K C_BadSize (.type "type") = true) (r2_BadSize : PySem.W.specialIn K (.ref C_BadSize) "__getattribute__" = some (some (.builtin "type.__getattribute__"))) (ci_BadSize : PySem.W.findCls K (.ref C_BadSize) (.type "type") "__init__" = some (.val (.ref fx_BadSize)))
    (g1_BadSize : PySem.W.findIn K (.ref C_BadSize) "__getattribute__" = some (some (.builtin "BaseException.__getattribute__"))) (g2_BadSize : PySem.W.findIn K (.ref C_BadSize) "__getattr__" = some none)
    {C_Missing : Addr} (aC_Missing : PySem.W.nsIn K mainGlobals "Missing" = some (some (.ref C_Missing)))
    {fx_Missing : Addr} {odx_Missing anx_Missing : Option Addr} {slx_Missing : Array (Option Value)} {ocx_Missing kVx_Missing dcx_Missing pmx_Missing cdx_Missing ctx_Missing : Value}
    (ax_Missing : PySem.W.findIn K (.ref C_Missing) "__init__" = some (some (.ref fx_Missing)))
    {dt_Missing : Addr}
    (lx_Missing : K.lookup fx_Missing = some ⟨ocx_Missing, odx_Missing, .func (PySem.W.fnOf "__init__" "Missing.__init__" (defArgs s_Missing___init) (defBody s_Missing___init) (defScope s_Missing___init) (.ref dt_Missing) kVx_Missing dcx_Missing pmx_Missing anx_Missing cdx_Missing ctx_Missing), slx_Missing⟩) (cx_Missing : PySem.W.codeIn K cdx_Missing "Missing.__init__" = true) (kx_Missing : PySem.W.keepIn K (.ref fx_Missing) = true)
    {ow_Missing : Value} {od2_Missing : Option Addr} {sl2_Missing : Array (Option Value)} {n2_Missing : Nat} {t1_Missing t2_Missing : Tok} (ld_Missing : K.lookup dt_Missing = some ⟨ow_Missing, od2_Missing, .seq #[.str "Missing" t1_Missing, .str "something is not there" t2_Missing] n2_Missing, sl2_Missing⟩)
    (e1_Missing : PySem.W.excInitIn K C_Missing PySem.OEG.bdL.bm PySem.OEG.bdL.newId = true) (e2_Missing : PySem.W.hasDictIn K C_Missing = true) (e3_Missing : PySem.W.findIn K (.ref C_Missing) "__setattr__" = some (some (.builtin "object.__setattr__"))) (e4_Missing : PySem.W.subIn K (.ref C_Missing) (.type "BaseException") = some true) (e5_Missing : PySem.W.typeIn K (.ref C_Missing) = some (.type "type")) (e6_Missing : PySem.W.keepIn K (.ref C_Missing) = true) (e7_Missing : PySem.W.typeIn K (.ref fx_Missing) = some (.type "function"))
    (nx_Missing_word : PySem.W.findIn K (.ref C_Missing) "word" = some none)
    (r1_Missing : PySem.W.readsIn K C_Missing (.type "type") = true) (r2_Missing : PySem.W.specialIn K (.ref C_Missing) "__getattribute__" = some (some (.builtin "type.__getattribute__"))) (ci_Missing : PySem.W.findCls K (.ref C_Missing) (.type "type") "__init__" = some (.val (.ref fx_Missing)))
    (g1_Missing : PySem.W.findIn K (.ref C_Missing) "__getattribute__" = some (some (.builtin "BaseException.__getattribute__"))) (g2_Missing : PySem.W.findIn K (.ref C_Missing) "__getattr__" = some none)
    {C_Unknown : Addr} (aC_Unknown : PySem.W.nsIn K mainGlobals "Unknown" = some (some (.ref C_Unknown)))
    {fx_Unknown : Addr} {odx_Unknown anx_Unknown : Option Addr} {slx_Unknown : Array (Option Value)} {ocx_Unknown kVx_Unknown dcx_Unknown pmx_Unknown cdx_Unknown ctx_Unknown : Value}
    (ax_Unknown : PySem.W.findIn K (.ref C_Unknown) "__init__" = some (some (.ref fx_Unknown)))
    (lx_Unknown : K.lookup fx_Unknown = some ⟨ocx_Unknown, odx_Unknown, .func (PySem.W.fnOf "__init__" "Unknown.__init__" (defArgs s_Unknown___init) (defBody s_Unknown___init) (defScope s_Unknown___init) .none kVx_Unknown dcx_Unknown pmx_Unknown anx_Unknown cdx_Unknown ctx_Unknown), slx_Unknown⟩) (cx_Unknown : PySem.W.codeIn K cdx_Unknown "Unknown.__init__" = true) (kx_Unknown : PySem.W.keepIn K (.ref fx_Unknown) = true)
    (e1_Unknown : PySem.W.excInitIn K C_Unknown PySem.OEG.bdL.bm PySem.OEG.bdL.newId = true) (e2_Unknown : PySem.W.hasDictIn K C_Unknown = true) (e3_Unknown : PySem.W.findIn K (.ref C_Unknown) "__setattr__" = some (some (.builtin "object.__setattr__"))) (e4_Unknown : PySem.W.subIn K (.ref C_Unknown) (.type "BaseException") = some true) (e5_Unknown : PySem.W.typeIn K (.ref C_Unknown) = some (.type "type")) (e6_Unknown : PySem.W.keepIn K (.ref C_Unknown) = true) (e7_Unknown : PySem.W.typeIn K (.ref fx_Unknown) = some (.type "function"))
    (nx_Unknown_word : PySem.W.findIn K (.ref C_Unknown) "word" = some none)
    (nx_Unknown_name : PySem.W.findIn K (.ref C_Unknown) "name" = some none)
    (r1_Unknown : PySem.W.readsIn K C_Unknown (.type "type") = true) (r2_Unknown : PySem.W.specialIn K (.ref C_Unknown) "__getattribute__" = some (some (.builtin "type.__getattribute__"))) (ci_Unknown : PySem.W.findCls K (.ref C_Unknown) (.type "type") "__init__" = some (.val (.ref fx_Unknown)))
    (g1_Unknown : PySem.W.findIn K (.ref C_Unknown) "__getattribute__" = some (some (.builtin "BaseException.__getattribute__"))) (g2_Unknown : PySem.W.findIn K (.ref C_Unknown) "__getattr__" = some none)
    {C_NothingLeft : Addr} (aC_NothingLeft : PySem.W.nsIn K mainGlobals "NothingLeft" = some (some (.ref C_NothingLeft)))
    {fx_NothingLeft : Addr} {odx_NothingLeft anx_NothingLeft : Option Addr} {slx_NothingLeft : Array (Option Value)} {ocx_NothingLeft kVx_NothingLeft dcx_NothingLeft pmx_NothingLeft cdx_NothingLeft ctx_NothingLeft : Value}
    (ax_NothingLeft : PySem.W.findIn K (.ref C_NothingLeft) "__init__" = some (some (.ref fx_NothingLeft)))
    (lx_NothingLeft : K.lookup fx_NothingLeft = some ⟨ocx_NothingLeft, odx_NothingLeft, .func (PySem.W.fnOf "__init__" "NothingLeft.__init__" (defArgs s_NothingLeft___init) (defBody s_NothingLeft___init) (defScope s_NothingLeft___init) .none kVx_NothingLeft dcx_NothingLeft pmx_NothingLeft anx_NothingLeft cdx_NothingLeft ctx_NothingLeft), slx_NothingLeft⟩) (cx_NothingLeft : PySem.W.codeIn K cdx_NothingLeft "NothingLeft.__init__" = true) (kx_NothingLeft : PySem.W.keepIn K (.ref fx_NothingLeft) = true)
    (e1_NothingLeft : PySem.W.excInitIn K C_NothingLeft PySem.OEG.bdI.bm PySem.OEG.bdI.newId = true) (e2_NothingLeft : PySem.W.hasDictIn K C_NothingLeft = true) (e3_NothingLeft : PySem.W.findIn K (.ref C_NothingLeft) "__setattr__" = some (some (.builtin "object.__setattr__"))) (e4_NothingLeft : PySem.W.subIn K (.ref C_NothingLeft) (.type "BaseException") = some true) (e5_NothingLeft : PySem.W.typeIn K (.ref C_NothingLeft) = some (.type "type")) (e6_NothingLeft : PySem.W.keepIn K (.ref C_NothingLeft) = true) (e7_NothingLeft : PySem.W.typeIn K (.ref fx_NothingLeft) = some (.type "function"))
    (nx_NothingLeft_word : PySem.W.findIn K (.ref C_NothingLeft) "word" = some none)
    (r1_NothingLeft : PySem.W.readsIn K C_NothingLeft (.type "type") = true) (r2_NothingLeft : PySem.W.specialIn K (.ref C_NothingLeft) "__getattribute__" = some (some (.builtin "type.__getattribute__"))) (ci_NothingLeft : PySem.W.findCls K (.ref C_NothingLeft) (.type "type") "__init__" = some (.val (.ref fx_NothingLeft)))
    (g1_NothingLeft : PySem.W.findIn K (.ref C_NothingLeft) "__getattribute__" = some (some (.builtin "BaseException.__getattribute__"))) (g2_NothingLeft : PySem.W.findIn K (.ref C_NothingLeft) "__getattr__" = some none)
    (sb_DeskError_DeskError : PySem.W.subIn K (.ref C_DeskError) (.ref C_DeskError) = some true)
    (sb_DeskError_Missing : PySem.W.subIn K (.ref C_DeskError) (.ref C_Missing) = some false)
    (sb_BadName_DeskError : PySem.W.subIn K (.ref C_BadName) (.ref C_DeskError) = some true)
    (sb_BadName_Missing : PySem.W.subIn K (.ref C_BadName) (.ref C_Missing) = some false)
    (sb_BadRectangle_DeskError : PySem.W.subIn K (.ref C_BadRectangle) (.ref C_DeskError) = some true)
    (sb_BadRectangle_Missing : PySem.W.subIn K (.ref C_BadRectangle) (.ref C_Missing) = some false)
    (sb_BadSize_DeskError : PySem.W.subIn K (.ref C_BadSize) (.ref C_DeskError) = some true)
    (sb_BadSize_Missing : PySem.W.subIn K (.ref C_BadSize) (.ref C_Missing) = some false)
    (sb_Missing_DeskError : PySem.W.subIn K (.ref C_Missing) (.ref C_DeskError) = some false)
    (sb_Missing_Missing : PySem.W.subIn K (.ref C_Missing) (.ref C_Missing) = some true)
    (sb_Unknown_DeskError : PySem.W.subIn K (.ref C_Unknown) (.ref C_DeskError) = some false)
    (sb_Unknown_Missing : PySem.W.subIn K (.ref C_Unknown) (.ref C_Missing) = some true)
    (sb_NothingLeft_DeskError : PySem.W.subIn K (.ref C_NothingLeft) (.ref C_DeskError) = some false)
    (sb_NothingLeft_Missing : PySem.W.subIn K (.ref C_NothingLeft) (.ref C_Missing) = some false)
    (sb_NL : PySem.W.subIn K (.ref C_NothingLeft) (.ref C_NothingLeft) = some true)
    {t_MOST_COORDINATE : Tok} (n_MOST_COORDINATE : PySem.W.nsIn K mainGlobals "MOST_COORDINATE" = some (some (.int 1000000000 t_MOST_COORDINATE)))
    {t_MOST_WINDOWS : Tok} (n_MOST_WINDOWS : PySem.W.nsIn K mainGlobals "MOST_WINDOWS" = some (some (.int 24 t_MOST_WINDOWS)))
    {t_MOST_LETTERS : Tok} (n_MOST_LETTERS : PySem.W.nsIn K mainGlobals "MOST_LETTERS" = some (some (.int 6 t_MOST_LETTERS)))
    {t_LETTERS : Tok} (n_LETTERS : PySem.W.nsIn K mainGlobals "LETTERS" = some (some (.str "abcdefghijklmnopqrstuvwxyz" t_LETTERS)))
    (z_ValueError : PySem.W.nsIn K mainGlobals "ValueError" = some none)
    (z_abs : PySem.W.nsIn K mainGlobals "abs" = some none)
    (z_all : PySem.W.nsIn K mainGlobals "all" = some none)
    (z_bool : PySem.W.nsIn K mainGlobals "bool" = some none)
    (z_dict : PySem.W.nsIn K mainGlobals "dict" = some none)
    (z_int : PySem.W.nsIn K mainGlobals "int" = some none)
    (z_isinstance : PySem.W.nsIn K mainGlobals "isinstance" = some none)
    (z_len : PySem.W.nsIn K mainGlobals "len" = some none)
    (z_list : PySem.W.nsIn K mainGlobals "list" = some none)
    (z_max : PySem.W.nsIn K mainGlobals "max" = some none)
    (z_range : PySem.W.nsIn K mainGlobals "range" = some none)
    (z_sorted : PySem.W.nsIn K mainGlobals "sorted" = some none)
    (z_str : PySem.W.nsIn K mainGlobals "str" = some none)
    (z_tuple : PySem.W.nsIn K mainGlobals "tuple" = some none)
    (z_zip : PySem.W.nsIn K mainGlobals "zip" = some none)
    : ∃ (fd : FuncData) (cs : List (Addr × Addr)), (∀ p ∈ cs, h.get? p.2 = some RK.tab0) ∧ (∀ p ∈ cs, K.lookup p.2 = none) ∧ (∀ p ∈ cs, PySem.W.codeHdIn K p.1 p.2 = true) ∧ (∀ (s : Shared) (v : Value), BindsTo s fd ⟨[v], []⟩ [("_law_script", v)]) ∧ ∀ bs : Heap, K.In bs → bs.Ns mainGlobals mg → (∀ p ∈ cs, LamX.TabB bs mg p.1 p.2) → RK.FnAt l.prog w K mg bs CX0 callerA fa fd ["_law_script"] (DL.spLawT K cs) := by
  have e := hfa.symm.trans (PySem.W.mg_of X G a15)
  cases e
  have F15 := fun_mk (st := s_law) l15 c15 k15
  have b15 := F15.binds (ps := ["_law_script"]) fun _ _ _ _ _ _ us hl => match us, hl with | [_], _ => rfl
  have Fx_DeskError : RK.FunA K "__init__" "DeskError.__init__" s_DeskError___init fx_DeskError (PySem.W.fnOf "__init__" "DeskError.__init__" (defArgs s_DeskError___init) (defBody s_DeskError___init) (defScope s_DeskError___init) (.ref dt_DeskError) kVx_DeskError dcx_DeskError pmx_DeskError anx_DeskError cdx_DeskError ctx_DeskError) := ⟨⟨_, _, _, _, _, _, _, _, _, _, rfl, lx_DeskError, cx_DeskError⟩, kx_DeskError⟩
  have D_DeskError : FunD K "__init__" "DeskError.__init__" (defArgs s_DeskError___init) (defBody s_DeskError___init) (defScope s_DeskError___init) [.str "DeskError", .str "a value is wrong"] [] fx_DeskError (PySem.W.fnOf "__init__" "DeskError.__init__" (defArgs s_DeskError___init) (defBody s_DeskError___init) (defScope s_DeskError___init) (.ref dt_DeskError) kVx_DeskError dcx_DeskError pmx_DeskError anx_DeskError cdx_DeskError ctx_DeskError) := ⟨⟨_, _, _, _, _, _, _, _, _, _, rfl, lx_DeskError, cx_DeskError, .inr ⟨by simp, dt_DeskError, _, [.str "DeskError" t1_DeskError, .str "a value is wrong" t2_DeskError], _, rfl, ld_DeskError, rfl, .cons ⟨_, rfl⟩ (.cons ⟨_, rfl⟩ .nil)⟩, .inl rfl⟩, kx_DeskError⟩
  have bx_DeskError : Binds K (PySem.W.fnOf "__init__" "DeskError.__init__" (defArgs s_DeskError___init) (defBody s_DeskError___init) (defScope s_DeskError___init) (.ref dt_DeskError) kVx_DeskError dcx_DeskError pmx_DeskError anx_DeskError cdx_DeskError ctx_DeskError) ["self", "word", "why"] [] := by
    obtain ⟨ds, r, b⟩ := D_DeskError.binds1 (ps := ["self", "word", "why"]) 3 2 (by simp) rfl fun _ _ _ _ _ _ _ us its h1 h2 => match us, its, h1, h2 with | [_, _, _], [_, _], _, _ => ⟨_, rfl, rfl⟩
    cases r
    exact b
  have Fx_BadName : RK.FunA K "__init__" "BadName.__init__" s_BadName___init fx_BadName (PySem.W.fnOf "__init__" "BadName.__init__" (defArgs s_BadName___init) (defBody s_BadName___init) (defScope s_BadName___init) .none kVx_BadName dcx_BadName pmx_BadName anx_BadName cdx_BadName ctx_BadName) := ⟨⟨_, _, _, _, _, _, _, _, _, _, rfl, lx_BadName, cx_BadName⟩, kx_BadName⟩
  have bx_BadName : Binds K (PySem.W.fnOf "__init__" "BadName.__init__" (defArgs s_BadName___init) (defBody s_BadName___init) (defScope s_BadName___init) .none kVx_BadName dcx_BadName pmx_BadName anx_BadName cdx_BadName ctx_BadName) ["self", "name"] [] := (fun_mk (st := s_BadName___init) lx_BadName cx_BadName kx_BadName).binds (ps := ["self", "name"]) fun _ _ _ _ _ _ us hl => match us, hl with | [_, _], _ => rfl
  have Fx_BadRectangle : RK.FunA K "__init__" "BadRectangle.__init__" s_BadRectangle___init fx_BadRectangle (PySem.W.fnOf "__init__" "BadRectangle.__init__" (defArgs s_BadRectangle___init) (defBody s_BadRectangle___init) (defScope s_BadRectangle___init) .none kVx_BadRectangle dcx_BadRectangle pmx_BadRectangle anx_BadRectangle cdx_BadRectangle ctx_BadRectangle) := ⟨⟨_, _, _, _, _, _, _, _, _, _, rfl, lx_BadRectangle, cx_BadRectangle⟩, kx_BadRectangle⟩
  have bx_BadRectangle : Binds K (PySem.W.fnOf "__init__" "BadRectangle.__init__" (defArgs s_BadRectangle___init) (defBody s_BadRectangle___init) (defScope s_BadRectangle___init) .none kVx_BadRectangle dcx_BadRectangle pmx_BadRectangle anx_BadRectangle cdx_BadRectangle ctx_BadRectangle) ["self", "name"] [] := (fun_mk (st := s_BadRectangle___init) lx_BadRectangle cx_BadRectangle kx_BadRectangle).binds (ps := ["self", "name"]) fun _ _ _ _ _ _ us hl => match us, hl with | [_, _], _ => rfl
  have Fx_BadSize : RK.FunA K "__init__" "BadSize.__init__" s_BadSize___init fx_BadSize (PySem.W.fnOf "__init__" "BadSize.__init__" (defArgs s_BadSize___init) (defBody s_BadSize___init) (defScope s_BadSize___init) .none kVx_BadSize dcx_BadSize pmx_BadSize anx_BadSize cdx_BadSize ctx_BadSize) := ⟨⟨_, _, _, _, _, _, _, _, _, _, rfl, lx_BadSize, cx_BadSize⟩, kx_BadSize⟩
  have bx_BadSize : Binds K (PySem.W.fnOf "__init__" "BadSize.__init__" (defArgs s_BadSize___init) (defBody s_BadSize___init) (defScope s_BadSize___init) .none kVx_BadSize dcx_BadSize pmx_BadSize anx_BadSize cdx_BadSize ctx_BadSize) ["self"] [] := (fun_mk (st := s_BadSize___init) lx_BadSize cx_BadSize kx_BadSize).binds (ps := ["self"]) fun _ _ _ _ _ _ us hl => match us, hl with | [_], _ => rfl
  have Fx_Missing : RK.FunA K "__init__" "Missing.__init__" s_Missing___init fx_Missing (PySem.W.fnOf "__init__" "Missing.__init__" (defArgs s_Missing___init) (defBody s_Missing___init) (defScope s_Missing___init) (.ref dt_Missing) kVx_Missing dcx_Missing pmx_Missing anx_Missing cdx_Missing ctx_Missing) := ⟨⟨_, _, _, _, _, _, _, _, _, _, rfl, lx_Missing, cx_Missing⟩, kx_Missing⟩
  have D_Missing : FunD K "__init__" "Missing.__init__" (defArgs s_Missing___init) (defBody s_Missing___init) (defScope s_Missing___init) [.str "Missing", .str "something is not there"] [] fx_Missing (PySem.W.fnOf "__init__" "Missing.__init__" (defArgs s_Missing___init) (defBody s_Missing___init) (defScope s_Missing___init) (.ref dt_Missing) kVx_Missing dcx_Missing pmx_Missing anx_Missing cdx_Missing ctx_Missing) := ⟨⟨_, _, _, _, _, _, _, _, _, _, rfl, lx_Missing, cx_Missing, .inr ⟨by simp, dt_Missing, _, [.str "Missing" t1_Missing, .str "something is not there" t2_Missing], _, rfl, ld_Missing, rfl, .cons ⟨_, rfl⟩ (.cons ⟨_, rfl⟩ .nil)⟩, .inl rfl⟩, kx_Missing⟩
  have bx_Missing : Binds K (PySem.W.fnOf "__init__" "Missing.__init__" (defArgs s_Missing___init) (defBody s_Missing___init) (defScope s_Missing___init) (.ref dt_Missing) kVx_Missing dcx_Missing pmx_Missing anx_Missing cdx_Missing ctx_Missing) ["self", "word", "why"] [] := by
    obtain ⟨ds, r, b⟩ := D_Missing.binds1 (ps := ["self", "word", "why"]) 3 2 (by simp) rfl fun _ _ _ _ _ _ _ us its h1 h2 => match us, its, h1, h2 with | [_, _, _], [_, _], _, _ => ⟨_, rfl, rfl⟩
    cases r
    exact b
  have Fx_Unknown : RK.FunA K "__init__" "Unknown.__init__" s_Unknown___init fx_Unknown (PySem.W.fnOf "__init__" "Unknown.__init__" (defArgs s_Unknown___init) (defBody s_Unknown___init) (defScope s_Unknown___init) .none kVx_Unknown dcx_Unknown pmx_Unknown anx_Unknown cdx_Unknown ctx_Unknown) := ⟨⟨_, _, _, _, _, _, _, _, _, _, rfl, lx_Unknown, cx_Unknown⟩, kx_Unknown⟩
  have bx_Unknown : Binds K (PySem.W.fnOf "__init__" "Unknown.__init__" (defArgs s_Unknown___init) (defBody s_Unknown___init) (defScope s_Unknown___init) .none kVx_Unknown dcx_Unknown pmx_Unknown anx_Unknown cdx_Unknown ctx_Unknown) ["self", "name"] [] := (fun_mk (st := s_Unknown___init) lx_Unknown cx_Unknown kx_Unknown).binds (ps := ["self", "name"]) fun _ _ _ _ _ _ us hl => match us, hl with | [_, _], _ => rfl
  have Fx_NothingLeft : RK.FunA K "__init__" "NothingLeft.__init__" s_NothingLeft___init fx_NothingLeft (PySem.W.fnOf "__init__" "NothingLeft.__init__" (defArgs s_NothingLeft___init) (defBody s_NothingLeft___init) (defScope s_NothingLeft___init) .none kVx_NothingLeft dcx_NothingLeft pmx_NothingLeft anx_NothingLeft cdx_NothingLeft ctx_NothingLeft) := ⟨⟨_, _, _, _, _, _, _, _, _, _, rfl, lx_NothingLeft, cx_NothingLeft⟩, kx_NothingLeft⟩
  have bx_NothingLeft : Binds K (PySem.W.fnOf "__init__" "NothingLeft.__init__" (defArgs s_NothingLeft___init) (defBody s_NothingLeft___init) (defScope s_NothingLeft___init) .none kVx_NothingLeft dcx_NothingLeft pmx_NothingLeft anx_NothingLeft cdx_NothingLeft ctx_NothingLeft) ["self"] [] := (fun_mk (st := s_NothingLeft___init) lx_NothingLeft cx_NothingLeft kx_NothingLeft).binds (ps := ["self"]) fun _ _ _ _ _ _ us hl => match us, hl with | [_], _ => rfl
  let T : Txt K mg := { xn_NothingLeft := RK.exm1 (b := PySem.OEG.bdI) ⟨PySem.OEG.okI, e1_NothingLeft, e2_NothingLeft, e3_NothingLeft, e4_NothingLeft, e5_NothingLeft, e6_NothingLeft⟩ sb_NL, p_is_rectangle := p0, p_has_four_numbers := p1, p_is_name := p2, p_check_windows := p3, p_bag := p4, p_pull := p5, p_of := p6, p_like := p7, p_mixed := p8, p_names := p9, p_rectangle := p10, p_windows := p11, p_field := p12, p_try := p13, p_due := p14, f_law := _, fd_law := _, F_law := F15, b_law := b15, g_law := PySem.W.mg_of X G a15, p_Desk___init := p16, p_Desk___len := p17, C_Desk := C_Desk, cl_Desk := ⟨pg_Desk, hd_Desk, po_Desk, sa_Desk⟩, M_Desk := ⟨mk_Desk, p16.s, p16.i, kc_Desk⟩, g_Desk := PySem.W.mg_of X G aC_Desk, n_Desk_windows := nf_Desk_windows, ic_Desk := ⟨⟨pg_Desk, hd_Desk, po_Desk, sa_Desk⟩, ic1_Desk, ic2_Desk, ic3_Desk, ic4_Desk, kit_me _ _⟩, ne_Desk := ne_Desk, mo_Desk := ic4_Desk, sub_dict_Desk := sub_dict_Desk, kit_dict_Desk := kit_sub ic5_Desk ic6_Desk sub_dict_Desk, sub_list_Desk := sub_list_Desk, kit_list_Desk := kit_sub ic5_Desk ic6_Desk sub_list_Desk, C_DeskError := C_DeskError, g_DeskError := PySem.W.mg_of X G aC_DeskError, f_DeskError___init := fx_DeskError, fd_DeskError___init := _, F_DeskError___init := Fx_DeskError, b_DeskError___init := bx_DeskError, x_DeskError := ⟨PySem.OEG.okV, e1_DeskError, e2_DeskError, e3_DeskError, e4_DeskError, e5_DeskError, e6_DeskError⟩, xi_DeskError := ax_DeskError, xt_DeskError := e7_DeskError, nx_DeskError_word := nx_DeskError_word, cr_DeskError := ⟨r1_DeskError, r2_DeskError⟩, ci_DeskError := ci_DeskError, xf_DeskError := ⟨g1_DeskError, g2_DeskError, e4_DeskError, e2_DeskError⟩, xm_DeskError := RK.exm2 (b := PySem.OEG.bdV) (c := PySem.OEG.bdL) ⟨PySem.OEG.okV, e1_DeskError, e2_DeskError, e3_DeskError, e4_DeskError, e5_DeskError, e6_DeskError⟩ ⟨PySem.OEG.okL, e1_Missing, e2_Missing, e3_Missing, e4_Missing, e5_Missing, e6_Missing⟩ sb_DeskError_DeskError sb_DeskError_Missing, C_BadName := C_BadName, g_BadName := PySem.W.mg_of X G aC_BadName, f_BadName___init := fx_BadName, fd_BadName___init := _, F_BadName___init := Fx_BadName, b_BadName___init := bx_BadName, x_BadName := ⟨PySem.OEG.okV, e1_BadName, e2_BadName, e3_BadName, e4_BadName, e5_BadName, e6_BadName⟩, xi_BadName := ax_BadName, xt_BadName := e7_BadName, nx_BadName_word := nx_BadName_word, nx_BadName_name := nx_BadName_name, cr_BadName := ⟨r1_BadName, r2_BadName⟩, ci_BadName := ci_BadName, xf_BadName := ⟨g1_BadName, g2_BadName, e4_BadName, e2_BadName⟩, xm_BadName := RK.exm2 (b := PySem.OEG.bdV) (c := PySem.OEG.bdL) ⟨PySem.OEG.okV, e1_DeskError, e2_DeskError, e3_DeskError, e4_DeskError, e5_DeskError, e6_DeskError⟩ ⟨PySem.OEG.okL, e1_Missing, e2_Missing, e3_Missing, e4_Missing, e5_Missing, e6_Missing⟩ sb_BadName_DeskError sb_BadName_Missing, C_BadRectangle := C_BadRectangle, g_BadRectangle := PySem.W.mg_of X G aC_BadRectangle, f_BadRectangle___init := fx_BadRectangle, fd_BadRectangle___init := _, F_BadRectangle___init := Fx_BadRectangle, b_BadRectangle___init := bx_BadRectangle, x_BadRectangle := ⟨PySem.OEG.okV, e1_BadRectangle, e2_BadRectangle, e3_BadRectangle, e4_BadRectangle, e5_BadRectangle, e6_BadRectangle⟩, xi_BadRectangle := ax_BadRectangle, xt_BadRectangle := e7_BadRectangle, nx_BadRectangle_word := nx_BadRectangle_word, nx_BadRectangle_name := nx_BadRectangle_name, cr_BadRectangle := ⟨r1_BadRectangle, r2_BadRectangle⟩, ci_BadRectangle := ci_BadRectangle, xf_BadRectangle := ⟨g1_BadRectangle, g2_BadRectangle, e4_BadRectangle, e2_BadRectangle⟩, xm_BadRectangle := RK.exm2 (b := PySem.OEG.bdV) (c := PySem.OEG.bdL) ⟨PySem.OEG.okV, e1_DeskError, e2_DeskError, e3_DeskError, e4_DeskError, e5_DeskError, e6_DeskError⟩ ⟨PySem.OEG.okL, e1_Missing, e2_Missing, e3_Missing, e4_Missing, e5_Missing, e6_Missing⟩ sb_BadRectangle_DeskError sb_BadRectangle_Missing, C_BadSize := C_BadSize, g_BadSize := PySem.W.mg_of X G aC_BadSize, f_BadSize___init := fx_BadSize, fd_BadSize___init := _, F_BadSize___init := Fx_BadSize, b_BadSize___init := bx_BadSize, x_BadSize := ⟨PySem.OEG.okV, e1_BadSize, e2_BadSize, e3_BadSize, e4_BadSize, e5_BadSize, e6_BadSize⟩, xi_BadSize := ax_BadSize, xt_BadSize := e7_BadSize, nx_BadSize_word := nx_BadSize_word, cr_BadSize := ⟨r1_BadSize, r2_BadSize⟩, ci_BadSize := ci_BadSize, xf_BadSize := ⟨g1_BadSize, g2_BadSize, e4_BadSize, e2_BadSize⟩, xm_BadSize := RK.exm2 (b := PySem.OEG.bdV) (c := PySem.OEG.bdL) ⟨PySem.OEG.okV, e1_DeskError, e2_DeskError, e3_DeskError, e4_DeskError, e5_DeskError, e6_DeskError⟩ ⟨PySem.OEG.okL, e1_Missing, e2_Missing, e3_Missing, e4_Missing, e5_Missing, e6_Missing⟩ sb_BadSize_DeskError sb_BadSize_Missing, C_Missing := C_Missing, g_Missing := PySem.W.mg_of X G aC_Missing, f_Missing___init := fx_Missing, fd_Missing___init := _, F_Missing___init := Fx_Missing, b_Missing___init := bx_Missing, x_Missing := ⟨PySem.OEG.okL, e1_Missing, e2_Missing, e3_Missing, e4_Missing, e5_Missing, e6_Missing⟩, xi_Missing := ax_Missing, xt_Missing := e7_Missing, nx_Missing_word := nx_Missing_word, cr_Missing := ⟨r1_Missing, r2_Missing⟩, ci_Missing := ci_Missing, xf_Missing := ⟨g1_Missing, g2_Missing, e4_Missing, e2_Missing⟩, xm_Missing := RK.exm2 (b := PySem.OEG.bdV) (c := PySem.OEG.bdL) ⟨PySem.OEG.okV, e1_DeskError, e2_DeskError, e3_DeskError, e4_DeskError, e5_DeskError, e6_DeskError⟩ ⟨PySem.OEG.okL, e1_Missing, e2_Missing, e3_Missing, e4_Missing, e5_Missing, e6_Missing⟩ sb_Missing_DeskError sb_Missing_Missing, C_Unknown := C_Unknown, g_Unknown := PySem.W.mg_of X G aC_Unknown, f_Unknown___init := fx_Unknown, fd_Unknown___init := _, F_Unknown___init := Fx_Unknown, b_Unknown___init := bx_Unknown, x_Unknown := ⟨PySem.OEG.okL, e1_Unknown, e2_Unknown, e3_Unknown, e4_Unknown, e5_Unknown, e6_Unknown⟩, xi_Unknown := ax_Unknown, xt_Unknown := e7_Unknown, nx_Unknown_word := nx_Unknown_word, nx_Unknown_name := nx_Unknown_name, cr_Unknown := ⟨r1_Unknown, r2_Unknown⟩, ci_Unknown := ci_Unknown, xf_Unknown := ⟨g1_Unknown, g2_Unknown, e4_Unknown, e2_Unknown⟩, xm_Unknown := RK.exm2 (b := PySem.OEG.bdV) (c := PySem.OEG.bdL) ⟨PySem.OEG.okV, e1_DeskError, e2_DeskError, e3_DeskError, e4_DeskError, e5_DeskError, e6_DeskError⟩ ⟨PySem.OEG.okL, e1_Missing, e2_Missing, e3_Missing, e4_Missing, e5_Missing, e6_Missing⟩ sb_Unknown_DeskError sb_Unknown_Missing, C_NothingLeft := C_NothingLeft, g_NothingLeft := PySem.W.mg_of X G aC_NothingLeft, f_NothingLeft___init := fx_NothingLeft, fd_NothingLeft___init := _, F_NothingLeft___init := Fx_NothingLeft, b_NothingLeft___init := bx_NothingLeft, x_NothingLeft := ⟨PySem.OEG.okI, e1_NothingLeft, e2_NothingLeft, e3_NothingLeft, e4_NothingLeft, e5_NothingLeft, e6_NothingLeft⟩, xi_NothingLeft := ax_NothingLeft, xt_NothingLeft := e7_NothingLeft, nx_NothingLeft_word := nx_NothingLeft_word, cr_NothingLeft := ⟨r1_NothingLeft, r2_NothingLeft⟩, ci_NothingLeft := ci_NothingLeft, xf_NothingLeft := ⟨g1_NothingLeft, g2_NothingLeft, e4_NothingLeft, e2_NothingLeft⟩, xm_NothingLeft := RK.exm2 (b := PySem.OEG.bdV) (c := PySem.OEG.bdL) ⟨PySem.OEG.okV, e1_DeskError, e2_DeskError, e3_DeskError, e4_DeskError, e5_DeskError, e6_DeskError⟩ ⟨PySem.OEG.okL, e1_Missing, e2_Missing, e3_Missing, e4_Missing, e5_Missing, e6_Missing⟩ sb_NothingLeft_DeskError sb_NothingLeft_Missing, t_MOST_COORDINATE := t_MOST_COORDINATE, c_MOST_COORDINATE := PySem.W.mg_of X G n_MOST_COORDINATE, t_MOST_WINDOWS := t_MOST_WINDOWS, c_MOST_WINDOWS := PySem.W.mg_of X G n_MOST_WINDOWS, t_MOST_LETTERS := t_MOST_LETTERS, c_MOST_LETTERS := PySem.W.mg_of X G n_MOST_LETTERS, t_LETTERS := t_LETTERS, c_LETTERS := PySem.W.mg_of X G n_LETTERS, m_ValueError := PySem.W.mg_none_of X G z_ValueError, m_abs := PySem.W.mg_none_of X G z_abs, m_all := PySem.W.mg_none_of X G z_all, m_bool := PySem.W.mg_none_of X G z_bool, m_dict := PySem.W.mg_none_of X G z_dict, m_int := PySem.W.mg_none_of X G z_int, m_isinstance := PySem.W.mg_none_of X G z_isinstance, m_len := PySem.W.mg_none_of X G z_len, m_list := PySem.W.mg_none_of X G z_list, m_max := PySem.W.mg_none_of X G z_max, m_range := PySem.W.mg_none_of X G z_range, m_sorted := PySem.W.mg_none_of X G z_sorted, m_str := PySem.W.mg_none_of X G z_str, m_tuple := PySem.W.mg_none_of X G z_tuple, m_zip := PySem.W.mg_none_of X G z_zip }
  exact ⟨(PySem.W.fnOf "law" "law" (defArgs s_law) (defBody s_law) (defScope s_law) .none kV15 dc15 pm15 an15 (.ref c_law) ct15), [(c_law, P_law)], fun p hp => by rw [List.mem_singleton.mp hp]; exact ttp, fun p hp => by rw [List.mem_singleton.mp hp]; exact tnp, fun p hp => by rw [List.mem_singleton.mp hp]; exact tch, fun s v => .of_eq rfl, fun base _ _ TB => ok_law T (TB _ List.mem_cons_self) l15 c15⟩
end RK
open PySem PySem.W PyProof.Rows
set_option maxHeartbeats 0 in
theorem PySem.Challenge.cw_raisekeys_k03_wrong_desks_holds : PySem.Challenge.rw_raisekeys_k03_wrong_desks.Holds := by
  w_on; o_law; k_head; (case hw => w_witness2)
  k_fill
  refine RK.walk_atT (l := PySem.Challenge.rw_raisekeys_k03_wrong_desks) (n := 63) (x := "_law_script") (CX := fun _ => L2.CX0) (sp := fun w cs => DL.spLawT _ cs) rfl (by decide) rfl (fun w h Y => PySem.W.km_in_of Y) ?F (fun _ _ _ a ns hl hO hS => ⟨a, ns, rfl, hO, hS, hl, fun _ => rfl⟩) (fun _ _ _ _ _ h => h)
  case F =>
    intro w mg fa h Y KX G hmg
    refine' RK.all_mk KX G hmg ?aC_Desk ?p0 ?p1 ?p2 ?p3 ?p4 ?p5 ?p6 ?p7 ?p8 ?p9 ?p10 ?p11 ?p12 ?p13 ?p14 ?a15 ?l15 ?c15 ?k15 ?tlc ?tpc ?tch ?tnp ?ttp ?p16 ?p17 ?pg_Desk ?hd_Desk ?po_Desk ?sa_Desk ?mk_Desk ?kc_Desk ?nf_Desk_windows ?ic1_Desk ?ic2_Desk ?ic3_Desk ?ic4_Desk ?ic5_Desk ?ic6_Desk ?ne_Desk ?sub_dict_Desk ?sub_list_Desk ?aC_DeskError ?ax_DeskError ?lx_DeskError ?cx_DeskError ?kx_DeskError ?ld_DeskError ?e1_DeskError ?e2_DeskError ?e3_DeskError ?e4_DeskError ?e5_DeskError ?e6_DeskError ?e7_DeskError ?nx_DeskError_word ?r1_DeskError ?r2_DeskError ?ci_DeskError ?g1_DeskError ?g2_DeskError ?aC_BadName ?ax_BadName ?lx_BadName ?cx_BadName ?kx_BadName ?e1_BadName ?e2_BadName ?e3_BadName ?e4_BadName ?e5_BadName ?e6_BadName ?e7_BadName ?nx_BadName_word ?nx_BadName_name ?r1_BadName ?r2_BadName ?ci_BadName ?g1_BadName ?g2_BadName ?aC_BadRectangle ?ax_BadRectangle ?lx_BadRectangle ?cx_BadRectangle ?kx_BadRectangle ?e1_BadRectangle ?e2_BadRectangle ?e3_BadRectangle ?e4_BadRectangle ?e5_BadRectangle ?e6_BadRectangle ?e7_BadRectangle ?nx_BadRectangle_word ?nx_BadRectangle_name ?r1_BadRectangle ?r2_BadRectangle ?ci_BadRectangle ?g1_BadRectangle ?g2_BadRectangle ?aC_BadSize ?ax_BadSize ?lx_BadSize ?cx_BadSize ?kx_BadSize ?e1_BadSize ?e2_BadSize ?e3_BadSize ?e4_BadSize ?e5_BadSize ?e6_BadSize ?e7_BadSize ?nx_BadSize_word ?r1_BadSize ?r2_BadSize ?ci_BadSize ?g1_BadSize ?g2_BadSize ?aC_Missing ?ax_Missing ?lx_Missing ?cx_Missing ?kx_Missing ?ld_Missing ?e1_Missing ?e2_Missing ?e3_Missing ?e4_Missing ?e5_Missing ?e6_Missing ?e7_Missing ?nx_Missing_word ?r1_Missing ?r2_Missing ?ci_Missing ?g1_Missing ?g2_Missing ?aC_Unknown ?ax_Unknown ?lx_Unknown ?cx_Unknown ?kx_Unknown ?e1_Unknown ?e2_Unknown ?e3_Unknown ?e4_Unknown ?e5_Unknown ?e6_Unknown ?e7_Unknown ?nx_Unknown_word ?nx_Unknown_name ?r1_Unknown ?r2_Unknown ?ci_Unknown ?g1_Unknown ?g2_Unknown ?aC_NothingLeft ?ax_NothingLeft ?lx_NothingLeft ?cx_NothingLeft ?kx_NothingLeft ?e1_NothingLeft ?e2_NothingLeft ?e3_NothingLeft ?e4_NothingLeft ?e5_NothingLeft ?e6_NothingLeft ?e7_NothingLeft ?nx_NothingLeft_word ?r1_NothingLeft ?r2_NothingLeft ?ci_NothingLeft ?g1_NothingLeft ?g2_NothingLeft ?sb_DeskError_DeskError ?sb_DeskError_Missing ?sb_BadName_DeskError ?sb_BadName_Missing ?sb_BadRectangle_DeskError ?sb_BadRectangle_Missing ?sb_BadSize_DeskError ?sb_BadSize_Missing ?sb_Missing_DeskError ?sb_Missing_Missing ?sb_Unknown_DeskError ?sb_Unknown_Missing ?sb_NothingLeft_DeskError ?sb_NothingLeft_Missing ?sb_NL ?n_MOST_COORDINATE ?n_MOST_WINDOWS ?n_MOST_LETTERS ?n_LETTERS ?z_ValueError ?z_abs ?z_all ?z_bool ?z_dict ?z_int ?z_isinstance ?z_len ?z_list ?z_max ?z_range ?z_sorted ?z_str ?z_tuple ?z_zip
    (case aC_Desk => k_is)
    (case p0 => refine' RK.ft_mk KX G ?a ?l ?c ?k (fun _ _ _ _ _ _ us hl => match us, hl with | [_], _ => rfl); (case a => k_is); (case l => k_is); (case c => k_is); (case k => k_is))
    (case p1 => refine' RK.ft_mk KX G ?a ?l ?c ?k (fun _ _ _ _ _ _ us hl => match us, hl with | [_], _ => rfl); (case a => k_is); (case l => k_is); (case c => k_is); (case k => k_is))
    (case p2 => refine' RK.ft_mk KX G ?a ?l ?c ?k (fun _ _ _ _ _ _ us hl => match us, hl with | [_], _ => rfl); (case a => k_is); (case l => k_is); (case c => k_is); (case k => k_is))
    (case p3 => refine' RK.ft_mk KX G ?a ?l ?c ?k (fun _ _ _ _ _ _ us hl => match us, hl with | [_], _ => rfl); (case a => k_is); (case l => k_is); (case c => k_is); (case k => k_is))
    (case p4 => refine' RK.ft_mk KX G ?a ?l ?c ?k (fun _ _ _ _ _ _ us hl => match us, hl with | [_], _ => rfl); (case a => k_is); (case l => k_is); (case c => k_is); (case k => k_is))
    (case p5 => refine' RK.ft_mk KX G ?a ?l ?c ?k (fun _ _ _ _ _ _ us hl => match us, hl with | [_, _], _ => rfl); (case a => k_is); (case l => k_is); (case c => k_is); (case k => k_is))
    (case p6 => refine' RK.ft_mk KX G ?a ?l ?c ?k (fun _ _ _ _ _ _ us hl => match us, hl with | [_, _], _ => rfl); (case a => k_is); (case l => k_is); (case c => k_is); (case k => k_is))
    (case p7 => refine' RK.ft_mk KX G ?a ?l ?c ?k (fun _ _ _ _ _ _ us hl => match us, hl with | [_, _], _ => rfl); (case a => k_is); (case l => k_is); (case c => k_is); (case k => k_is))
    (case p8 => refine' RK.ft_mk KX G ?a ?l ?c ?k (fun _ _ _ _ _ _ us hl => match us, hl with | [_, _], _ => rfl); (case a => k_is); (case l => k_is); (case c => k_is); (case k => k_is))
    (case p9 => refine' RK.ft_mk KX G ?a ?l ?c ?k (fun _ _ _ _ _ _ us hl => match us, hl with | [_, _], _ => rfl); (case a => k_is); (case l => k_is); (case c => k_is); (case k => k_is))
    (case p10 => refine' RK.ft_mk KX G ?a ?l ?c ?k (fun _ _ _ _ _ _ us hl => match us, hl with | [_, _], _ => rfl); (case a => k_is); (case l => k_is); (case c => k_is); (case k => k_is))
    (case p11 => refine' RK.ft_mk KX G ?a ?l ?c ?k (fun _ _ _ _ _ _ us hl => match us, hl with | [_, _, _], _ => rfl); (case a => k_is); (case l => k_is); (case c => k_is); (case k => k_is))
    (case p12 => refine' RK.ft_mk KX G ?a ?l ?c ?k (fun _ _ _ _ _ _ us hl => match us, hl with | [_], _ => rfl); (case a => k_is); (case l => k_is); (case c => k_is); (case k => k_is))
    (case p13 => refine' RK.ft_mk KX G ?a ?l ?c ?k (fun _ _ _ _ _ _ us hl => match us, hl with | [_], _ => rfl); (case a => k_is); (case l => k_is); (case c => k_is); (case k => k_is))
    (case p14 => refine' RK.ft_mk KX G ?a ?l ?c ?k (fun _ _ _ _ _ _ us hl => match us, hl with | [_], _ => rfl); (case a => k_is); (case l => k_is); (case c => k_is); (case k => k_is))
    (case a15 => k_is)
    (case l15 => k_is)
    (case c15 => k_is)
    (case k15 => k_is)
    (case tlc => k_is)
    (case tpc => rfl)
    (case tch => kernel_rfl)
    (case tnp => kernel_rfl)
    (case ttp => exact PySem.W.km_tabs_of Y _ (by first | exact List.mem_cons_self | decide | simp))
    (case p16 => refine' RK.mt_mk ?a ?i ?l ?c ?k (fun _ _ _ _ _ _ us hl => match us, hl with | [_, _], _ => rfl); (case a => k_is); (case i => k_is); (case l => k_is); (case c => k_is); (case k => k_is))
    (case p17 => refine' RK.mt_mk ?a ?i ?l ?c ?k (fun _ _ _ _ _ _ us hl => match us, hl with | [_], _ => rfl); (case a => k_is); (case i => k_is); (case l => k_is); (case c => k_is); (case k => k_is))
    (case pg_Desk => k_is)
    (case hd_Desk => k_is)
    (case po_Desk => k_is)
    (case sa_Desk => k_is)
    (case mk_Desk => k_is)
    (case kc_Desk => k_is)
    (case nf_Desk_windows => k_is)
    (case ic1_Desk => k_is)
    (case ic2_Desk => k_is)
    (case ic3_Desk => k_is)
    (case ic4_Desk => k_is)
    (case ic5_Desk => k_is)
    (case ic6_Desk => k_is)
    (case ne_Desk => k_is)
    (case sub_dict_Desk => k_is)
    (case sub_list_Desk => k_is)
    (case aC_DeskError => k_is)
    (case ax_DeskError => k_is)
    (case lx_DeskError => k_is)
    (case cx_DeskError => k_is)
    (case kx_DeskError => k_is)
    (case ld_DeskError => k_is)
    (case e1_DeskError => kx_is)
    (case e2_DeskError => k_is)
    (case e3_DeskError => k_is)
    (case e4_DeskError => k_is)
    (case e5_DeskError => k_is)
    (case e6_DeskError => k_is)
    (case e7_DeskError => k_is)
    (case nx_DeskError_word => k_is)
    (case r1_DeskError => k_is)
    (case r2_DeskError => k_is)
    (case ci_DeskError => k_is)
    (case g1_DeskError => k_is)
    (case g2_DeskError => k_is)
    (case aC_BadName => k_is)
    (case ax_BadName => k_is)
    (case lx_BadName => k_is)
    (case cx_BadName => k_is)
    (case kx_BadName => k_is)
    (case e1_BadName => kx_is)
    (case e2_BadName => k_is)
    (case e3_BadName => k_is)
    (case e4_BadName => k_is)
    (case e5_BadName => k_is)
    (case e6_BadName => k_is)
    (case e7_BadName => k_is)
    (case nx_BadName_word => k_is)
    (case nx_BadName_name => k_is)
    (case r1_BadName => k_is)
    (case r2_BadName => k_is)
    (case ci_BadName => k_is)
    (case g1_BadName => k_is)
    (case g2_BadName => k_is)
    (case aC_BadRectangle => k_is)
    (case ax_BadRectangle => k_is)
    (case lx_BadRectangle => k_is)
    (case cx_BadRectangle => k_is)
    (case kx_BadRectangle => k_is)
    (case e1_BadRectangle => kx_is)
    (case e2_BadRectangle => k_is)
    (case e3_BadRectangle => k_is)
    (case e4_BadRectangle => k_is)
    (case e5_BadRectangle => k_is)
    (case e6_BadRectangle => k_is)
    (case e7_BadRectangle => k_is)
    (case nx_BadRectangle_word => k_is)
    (case nx_BadRectangle_name => k_is)
    (case r1_BadRectangle => k_is)
    (case r2_BadRectangle => k_is)
    (case ci_BadRectangle => k_is)
    (case g1_BadRectangle => k_is)
    (case g2_BadRectangle => k_is)
    (case aC_BadSize => k_is)
    (case ax_BadSize => k_is)
    (case lx_BadSize => k_is)
    (case cx_BadSize => k_is)
    (case kx_BadSize => k_is)
    (case e1_BadSize => kx_is)
    (case e2_BadSize => k_is)
    (case e3_BadSize => k_is)
    (case e4_BadSize => k_is)
    (case e5_BadSize => k_is)
    (case e6_BadSize => k_is)
    (case e7_BadSize => k_is)
    (case nx_BadSize_word => k_is)
    (case r1_BadSize => k_is)
    (case r2_BadSize => k_is)
    (case ci_BadSize => k_is)
    (case g1_BadSize => k_is)
    (case g2_BadSize => k_is)
    (case aC_Missing => k_is)
    (case ax_Missing => k_is)
    (case lx_Missing => k_is)
    (case cx_Missing => k_is)
    (case kx_Missing => k_is)
    (case ld_Missing => k_is)
    (case e1_Missing => kx_is)
    (case e2_Missing => k_is)
    (case e3_Missing => k_is)
    (case e4_Missing => k_is)
    (case e5_Missing => k_is)
    (case e6_Missing => k_is)
    (case e7_Missing => k_is)
    (case nx_Missing_word => k_is)
    (case r1_Missing => k_is)
    (case r2_Missing => k_is)
    (case ci_Missing => k_is)
    (case g1_Missing => k_is)
    (case g2_Missing => k_is)
    (case aC_Unknown => k_is)
    (case ax_Unknown => k_is)
    (case lx_Unknown => k_is)
    (case cx_Unknown => k_is)
    (case kx_Unknown => k_is)
    (case e1_Unknown => kx_is)
    (case e2_Unknown => k_is)
    (case e3_Unknown => k_is)
    (case e4_Unknown => k_is)
    (case e5_Unknown => k_is)
    (case e6_Unknown => k_is)
    (case e7_Unknown => k_is)
    (case nx_Unknown_word => k_is)
    (case nx_Unknown_name => k_is)
    (case r1_Unknown => k_is)
    (case r2_Unknown => k_is)
    (case ci_Unknown => k_is)
    (case g1_Unknown => k_is)
    (case g2_Unknown => k_is)
    (case aC_NothingLeft => k_is)
    (case ax_NothingLeft => k_is)
    (case lx_NothingLeft => k_is)
    (case cx_NothingLeft => k_is)
    (case kx_NothingLeft => k_is)
    (case e1_NothingLeft => kx_is)
    (case e2_NothingLeft => k_is)
    (case e3_NothingLeft => k_is)
    (case e4_NothingLeft => k_is)
    (case e5_NothingLeft => k_is)
    (case e6_NothingLeft => k_is)
    (case e7_NothingLeft => k_is)
    (case nx_NothingLeft_word => k_is)
    (case r1_NothingLeft => k_is)
    (case r2_NothingLeft => k_is)
    (case ci_NothingLeft => k_is)
    (case g1_NothingLeft => k_is)
    (case g2_NothingLeft => k_is)
    (case sb_DeskError_DeskError => k_is)
    (case sb_DeskError_Missing => k_is)
    (case sb_BadName_DeskError => k_is)
    (case sb_BadName_Missing => k_is)
    (case sb_BadRectangle_DeskError => k_is)
    (case sb_BadRectangle_Missing => k_is)
    (case sb_BadSize_DeskError => k_is)
    (case sb_BadSize_Missing => k_is)
    (case sb_Missing_DeskError => k_is)
    (case sb_Missing_Missing => k_is)
    (case sb_Unknown_DeskError => k_is)
    (case sb_Unknown_Missing => k_is)
    (case sb_NothingLeft_DeskError => k_is)
    (case sb_NothingLeft_Missing => k_is)
    (case sb_NL => k_is)
    (case n_MOST_COORDINATE => k_is)
    (case n_MOST_WINDOWS => k_is)
    (case n_MOST_LETTERS => k_is)
    (case n_LETTERS => k_is)
    (case z_ValueError => k_is)
    (case z_abs => k_is)
    (case z_all => k_is)
    (case z_bool => k_is)
    (case z_dict => k_is)
    (case z_int => k_is)
    (case z_isinstance => k_is)
    (case z_len => k_is)
    (case z_list => k_is)
    (case z_max => k_is)
    (case z_range => k_is)
    (case z_sorted => k_is)
    (case z_str => k_is)
    (case z_tuple => k_is)
    (case z_zip => k_is)
