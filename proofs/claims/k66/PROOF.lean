import PyProof.Rows.All
import Wide.All
import OpenK.AllK
import Wide.FinOn
import HandS.ForMost
import HandS.IsInst
import HandS.TupAny
import HandS.TupMul
import HandS.Wide
import PyProof.ReprRoads
import KE.GoesEnum
import PyProof.EqKinds
import HandS.FStrTup
import PyProof.FitsInt
import HandS.Walk
import PyProof.NeKinds
import HandS.ListItems
import KE.KItemsList
import PyProof.ZipIter
import KE.KDictPairs
import HandS.Style
import HandS.Sort
import HandS.SortRule
import HandS.Deep
import HandS.SortInts
import HandS.More
import HandS.DictComp
import HandS.Dict
import PyProof.Rows.SortKeyStr
import PyProof.P3In
import KE.KDictZip
import HandS.DictTup
import HandS.Conv
import HandS.Small
import KE.SortData
import KE.DatumOrd
import HandS.Iter
import KE.KDictList
import HandS.Comp
import HandS.Exc
import HandS.ExcIs
import HandS.ExcOwn
import HandS.WordsExc
import HandS.Flow
import HandS.WordsDict
import HandS.DeepEq
import HandS.Zip
import HandS.Set
import HandS.SetBool
import HandS.SetFor
import PyProof.Rows.SortShellAny
import HandS.TupSets
import HandS.Strs
import PySem.Challenge.RW_heldapart_k66_whole_clauses_of_cases
set_option Elab.async false
set_option linter.all false
set_option maxRecDepth 100000
set_option maxHeartbeats 4000000
/-! Calls that carry the word «no repr is under way», so that repr of data is known. -/
namespace L2.Hx
open PySem PySem.Spec PyProof.Rows

/-- FnOk, for callers around whom no guard stands -/
structure FnG (P : Program) (w : World) (K : PySem.W.Frag) (mg : Str → Option Value) (base : Heap) (CX : CXT) (k : Nat) (f : Addr) (fd : FuncData) (ps : List Str) (sp : Sp) : Prop where
  ln : ∀ vs H Q E, sp vs H Q E → vs.length = ps.length
  go : ∀ (A : Around) (outer : List Env) (s : Shared) (H : Hp) (args : Args) (us : List Value) (vs : List V) (Q : VK) (E : XK), A.guards = some [] → Room k A → Env0 P w K mg base A outer s H →
    BindsTo s fd args (ps.zip us) → Vals vs us → sp vs H Q E → codeAny (model P w) A (.call (.ref f) args) (CR CX outer P w H s Q E) s

section
variable {P : Program} {w : World} {K : PySem.W.Frag} {mg : Str → Option Value} {base : Heap} {CX : CXT} {f : Addr} {fd : FuncData} {ps : List Str} {sp : Sp} {k : Nat}
theorem FnG.ofOk (F : FnOk P w K mg base CX k f fd ps sp) : FnG P w K mg base CX k f fd ps sp :=
  ⟨F.len, fun A outer s H args us vs Q E _ hr e b r h => F.run A outer s H args us vs Q E hr e b r h⟩
theorem FnG.mono {j : Nat} (F : FnG P w K mg base CX j f fd ps sp) (h : j ≤ k) : FnG P w K mg base CX k f fd ps sp :=
  ⟨F.ln, fun A outer s H args us vs Q E hg hr => F.go A outer s H args us vs Q E hg (hr.mono h)⟩
theorem FnG.imp {sp' : Sp} (F : FnG P w K mg base CX k f fd ps sp) (h : ∀ vs H Q E, sp' vs H Q E → sp vs H Q E) : FnG P w K mg base CX k f fd ps sp' :=
  ⟨fun vs H Q E q => F.ln vs H Q E (h _ _ _ _ q), fun A outer s H args us vs Q E hg hr e b r q => F.go A outer s H args us vs Q E hg hr e b r (h _ _ _ _ q)⟩
/-- a def by its body -/
theorem fng_of {name qual : Str} {params : Arguments} {body : List Stmt} {scope : Scope} {dV kV doc pm cdv ct oc : Value} {an od : Option Addr} {osl : Array (Option Value)} {N : List Str}
    (lk : K.lookup f = some ⟨oc, od, .func (PySem.W.fnOf name qual params body scope dV kV doc pm an cdv ct), osl⟩) (hcd : PySem.W.codeIn K cdv qual = true) (S : FnScope N ps scope)
    (hn : ∀ vs H Q E, sp vs H Q E → vs.length = ps.length)
    (hbody : ∀ (A : Around) (outer : List Env) (s : Shared) (H : Hp) (vs : List V) (Q : VK) (E : XK), A.guards = some [] → Room k (A.deeper (envOfC qual scope s.heap.objs.size f cdv)) → sp vs H Q E →
      ∃ t, PSs (cxOf CX P w K mg base N qual scope f cdv A outer s H E) body t ∧ t { nx := fun _ H' => Q .non H', rt := Q } (start N vs) H) :
    FnG P w K mg base CX (k + 1) f (PySem.W.fnOf name qual params body scope dV kV doc pm an cdv ct) ps sp := by
  refine ⟨hn, fun A outer s H args us vs Q E hgd hr en hbd rv hsp => ?_⟩
  have hlen := hn _ _ _ _ hsp
  have kin : K.In s.heap := en.mod.kin.keeps fun b o q => (en.bs b o q).1
  have nol : s.heap.NoLimit := en.mod.nolimit.keeps fun b o q => (en.bs b o q).1
  have kinds : ∀ y ∈ ps.zip us, scope.names.lookup y.1 = some .local ∨ (scope.names.lookup y.1 = some .cell ∧ ((cellsFrom (s.heap.objs.size + 1) scope.names []).lookup y.1).isSome = true) := fun ⟨n, v⟩ hy =>
    (S.par n (List.of_mem_zip hy).1).elim (fun z => .inl z) fun z => .inr ⟨z, PySem.W.cellsFrom_some _ _ _ (.inl z)⟩
  refine codeAny_call_function hr.depth (kin _ _ lk) rfl S.co S.gen rfl (PySem.W.codeRec_of kin hcd) (hbd _ _ _ _ ?_)
  refine wpAny_newFunctionEnv_cells S.kind kinds fun env he s1 x => ?_
  subst he
  refine ⟨nol.keeps x.toInCall.keep, codeAny_func ?_⟩
  obtain ⟨t, ht, hq⟩ := hbody A outer s H vs Q E hgd (hr.deeper _) hsp
  have J0 := inv_start (CX := CX) (P := P) (w := w) (K := K) (mg := mg) (base := base) (E := E) S hr.hd en hlen rv x
  refine wpAny_mono (ht.run [] s1 (start N vs) H _ J0 hq) (fun fl s2 hs => ?_) fun e s2 hs => hs
  cases fl with
  | ret u => obtain ⟨v, σ', H', J, r, q⟩ := hs; exact ⟨v, H', J.os, J.bare, J.base, J.hok, r, q⟩
  | next => obtain ⟨σ', H', J, q⟩ := hs; exact ⟨V.non, H', J.os, J.bare, J.base, J.hok, rfl, q⟩
  | brk => obtain ⟨_, _, _, q⟩ := hs; exact q.elim
  | cont => obtain ⟨_, _, _, q⟩ := hs; exact q.elim
/-- a def of the text that lets nothing out -/
theorem okG {x qual : Str} {st : Stmt} {N : List Str} (F : Fun K x qual st f fd) (S : FnScope N ps (defScope st)) (hn : ∀ vs H Q E, sp vs H Q E → vs.length = ps.length)
    (hbody : ∀ (cdv : Value) (A : Around) (outer : List Env) (s : Shared) (H : Hp) (vs : List V) (Q : VK) (E : XK), (A.deeper (envOfC qual (defScope st) s.heap.objs.size f cdv)).guards = some [] → Room k (A.deeper (envOfC qual (defScope st) s.heap.objs.size f cdv)) → sp vs H Q E →
      ∃ t, PSs (cxOf CX0 P w K mg base N qual (defScope st) f cdv A outer s H E).nox (defBody st) t ∧ t { nx := fun _ H' => Q .non H', rt := Q } (start N vs) H) :
    FnG P w K mg base CX0 (k + 1) f fd ps sp := by
  obtain ⟨oc, od, kV, doc, pm, an, cdv, ct, osl, rfl, lk, hcd⟩ := F.ex
  refine fng_of lk hcd S hn fun A outer s H vs Q E hgd hr hsp => ?_
  obtain ⟨t, h, q⟩ := hbody cdv A outer s H vs Q E hgd hr hsp
  exact ⟨t, h.nox, q⟩
end

section
variable {X : Cx} {CX : CXT} {k : Nat} {f : Addr} {fd : FuncData} {ps ks : List Str} {sp : Sp} {dvs : List V} {ds : List Value} {E : XK} {x : Str} {p pos : Pos} {e : Expr} {es : List Expr} {kws : List Keyword} {t tk : TA}
/-- the callee runs -/
theorem run_g {pins : List (Addr × Obj)} {σ : St} {H : Hp} {s : Shared} {Q : VK} {us : List Value} {vs : List V} (F : FnG X.prog X.w X.K X.mg X.base CX k f fd ps sp) (hgd : X.A.guards = some []) (hr : Room k X.A) (hb : Binds X.K fd ps ds) (hd : Vals dvs ds) (hx : Passes CX X E)
    (I : Inv X pins σ H s) (r : Vals vs us) (h : sp (vs ++ dvs) H Q E) : wpAny (model X.prog X.w) X.A (call (.ref f) us) (EP X pins σ Q) X.xe s := by
  have rd : Vals (vs ++ dvs) (us ++ ds) := r.append hd
  have hlen : (us ++ ds).length = ps.length := rd.length.symm.trans (F.ln _ _ _ _ h)
  refine wpAny_call (codeAny_mono (F.go X.A X.stack s H ⟨us, []⟩ (us ++ ds) (vs ++ dvs) Q E hgd hr I.env0 (hb s us I.kIn hlen) rd h) fun z s2 hq => ?_)
  cases z with
  | error er => exact hx pins σ H s er s2 I hq
  | ok fl =>
    cases fl with
    | ret u => exact I.after hq
    | next => exact hq.elim
    | brk => exact hq.elim
    | cont => exact hq.elim
theorem pe_g (F : FnG X.prog X.w X.K X.mg X.base CX k f fd ps sp) (hgd : X.A.guards = some []) (hr : Room k X.A) (hg : Gl X x) (hm : X.mg x = some (.ref f)) (hk : PySem.W.keepIn X.K (.ref f) = true) (hb : Binds X.K fd ps ds) (hd : Vals dvs ds) (hx : Passes CX X E)
    (ha : PA X (e :: es) t) (hdb : (x == ("__debug__" : Str)) = false := by decide) (he : starEach (e :: es) X.env = (false, eval e X.env) :: starEach es X.env := by rfl) (hpl : (backTo pos (starEach es X.env)).any (·.1) = false := by rfl) :
    PE X (.Call (.Name x p) (e :: es) [] pos) (tCall sp dvs E t) := ⟨fun pins s σ H Q I h =>
  wpAny_Call_Name_kw (ld_glob I hg hm (PySem.W.callWith_K (h₀ := X.base) I.ok.mod.kin hk (thn (ha.run pos pins s σ H _ I h) fun us s1 ⟨vs, H1, I1, r, q⟩ => ⟨I1.kIn, run_g F hgd hr hb hd hx I1 r q⟩) he hpl) hdb)⟩
theorem pe_g0 (F : FnG X.prog X.w X.K X.mg X.base CX k f fd ps sp) (hgd : X.A.guards = some []) (hr : Room k X.A) (hg : Gl X x) (hm : X.mg x = some (.ref f)) (hk : PySem.W.keepIn X.K (.ref f) = true) (hb : Binds X.K fd ps ds) (hd : Vals dvs ds) (hx : Passes CX X E)
    (hdb : (x == ("__debug__" : Str)) = false := by decide) : PE X (.Call (.Name x p) [] [] pos) (tCall sp dvs E tNil) := ⟨fun pins s σ H Q I h =>
  wpAny_Call_Name_kw (ld_glob I hg hm (PySem.W.callWith_K0 I.kIn hk (run_g (us := []) F hgd hr hb hd hx I .nil h)) hdb)⟩
/-- f(k = v, ..) by names alone: hb puts the values in the parameters' order -/
def KwBinds (K : PySem.W.Frag) (fd : FuncData) (ps ks : List Str) (g : {α : Type} → List α → List α) : Prop :=
  ∀ (s : Shared) (ws : List Value), K.In s.heap → ws.length = ps.length → BindsTo s fd ⟨[], ks.zip ws⟩ (ps.zip (g ws))
def tKw (sp : Sp) (g : {α : Type} → List α → List α) (n : Nat) (E : XK) (tk : TA) : TE := fun σ H Q => tk σ H fun zs H2 => zs.length = n ∧ sp (g zs) H2 Q E
theorem pe_kw {g : {α : Type} → List α → List α} (F : FnG X.prog X.w X.K X.mg X.base CX k f fd ps sp) (hgd : X.A.guards = some []) (hr : Room k X.A) (hg : Gl X x) (hm : X.mg x = some (.ref f)) (hk : PySem.W.keepIn X.K (.ref f) = true) (hb : KwBinds X.K fd ps ks g) (hx : Passes CX X E)
    (hkw : PK X kws tk) (hrel : ∀ {zs : List V} {ws : List Value}, Vals zs ws → Vals (g zs) (g ws)) (hall : (backToKw pos (keywordEach kws X.env)).all (·.1.isSome) = true := by rfl) (hks : (backToKw pos (keywordEach kws X.env)).filterMap (·.1) = ks := by rfl) (hdb : (x == ("__debug__" : Str)) = false := by decide)
    (hpl : ((backTo pos (starEach [] X.env)).any (·.1) || (backToKw pos (keywordEach kws X.env)).any (·.1.isNone)) = false := by rfl) :
    PE X (.Call (.Name x p) [] kws pos) (tKw sp g ps.length E tk) := by
  refine ⟨fun pins s σ H Q I h => wpAny_Call_Name_kw (ld_glob I hg hm ?_ hdb)⟩
  refine PySem.W.callWith_KW0 (h₀ := X.base) I.ok.mod.kin hk hall ?_ hpl
  refine thn (hkw.run pos pins s σ H _ I h) fun ws s2 ⟨zs, H2, I2, rz, hz, q2⟩ => ⟨I2.kIn, ?_⟩
  rw [hks]
  have rg := hrel rz
  refine wpAny_call (codeAny_mono (F.go X.A X.stack s2 H2 ⟨[], ks.zip ws⟩ (g ws) (g zs) Q E hgd hr I2.env0 (hb s2 ws I2.kIn (rz.length.symm.trans hz)) rg q2) fun z s3 hq => ?_)
  cases z with
  | error er => exact hx pins σ H2 s2 er s3 I2 hq
  | ok fl =>
    cases fl with
    | ret u => exact I2.after hq
    | next => exact hq.elim
    | brk => exact hq.elim
    | cont => exact hq.elim
end
end L2.Hx

/-! Data of any depth, dicts too, over a part G of the tracked heap; repr of data. -/
namespace L2.Hx
open PySem PySem.Spec PyProof.Rows

def keyD : Key → PyData
  | .inl i => .int i
  | .inr x => .str x
mutual
inductive Da (K : PySem.W.Frag) (G : Hp) : V → PyData → Prop
  | non : Da K G .non .none
  | bl (b : Bool) : Da K G (.bl b) (.bool b)
  | int (i : Int) : Da K G (.int i) (.int i)
  | str (x : Str) : Da K G (.str x) (.str x)
  | lst {a : Addr} {xs : List V} {ds : List PyData} : G a = some (.lst xs) → DaAll K G xs ds → Da K G (.ref a) (.list ds)
  | tup {a : Addr} {xs : List V} {ds : List PyData} : SqT K G a xs → DaAll K G xs ds → Da K G (.ref a) (.tuple ds)
  | dct {a : Addr} {kvs : List (Key × V)} {ds : List PyData} : G a = some (.dK kvs) → DaAll K G (kvs.map (·.2)) ds → Da K G (.ref a) (.dict ((kvs.map fun p => keyD p.1).zip ds))
inductive DaAll (K : PySem.W.Frag) (G : Hp) : List V → List PyData → Prop
  | nil : DaAll K G [] []
  | cons {v : V} {vs : List V} {d : PyData} {ds : List PyData} : Da K G v d → DaAll K G vs ds → DaAll K G (v :: vs) (d :: ds)
end
section
variable {K : PySem.W.Frag} {G G' : Hp}
theorem DaAll.length : ∀ {vs : List V} {ds : List PyData}, DaAll K G vs ds → vs.length = ds.length
  | _, _, .nil => rfl
  | _, _, .cons _ t => by rw [List.length_cons, List.length_cons, DaAll.length t]
theorem sameT {a : Addr} {xs : List V} (e : Same G G') (h : SqT K G a xs) : SqT K G' a xs := by
  rcases h with (q | ⟨o, q⟩) | q
  · exact .inl (.inl (e _ _ q))
  · exact .inl (.inr ⟨o, e _ _ q⟩)
  · exact .inr q
mutual
theorem Da.mono (e : Same G G') : ∀ {v : V} {d : PyData}, Da K G v d → Da K G' v d
  | _, _, .non => .non
  | _, _, .bl b => .bl b
  | _, _, .int i => .int i
  | _, _, .str x => .str x
  | _, _, .lst h t => .lst (e _ _ h) (DaAll.mono e t)
  | _, _, .tup h t => .tup (sameT e h) (DaAll.mono e t)
  | _, _, .dct h t => .dct (e _ _ h) (DaAll.mono e t)
theorem DaAll.mono (e : Same G G') : ∀ {vs : List V} {ds : List PyData}, DaAll K G vs ds → DaAll K G' vs ds
  | _, _, .nil => .nil
  | _, _, .cons h t => .cons (Da.mono e h) (DaAll.mono e t)
end
theorem DaAll.append : ∀ {vs ws : List V} {ds es : List PyData}, DaAll K G vs ds → DaAll K G ws es → DaAll K G (vs ++ ws) (ds ++ es)
  | _, _, _, _, .nil, s => s
  | _, _, _, _, .cons h t, s => .cons h (DaAll.append t s)
theorem DaAll.get : ∀ {vs : List V} {ds : List PyData} {i : Nat} {v : V}, DaAll K G vs ds → vs[i]? = some v → ∃ d, ds[i]? = some d ∧ Da K G v d
  | _, _, 0, _, .cons h t, e => by
    rw [List.getElem?_cons_zero] at e
    cases e
    exact ⟨_, rfl, h⟩
  | _, _, i + 1, v, .cons h t, e => by
    rw [List.getElem?_cons_succ] at e ⊢
    exact DaAll.get t e
theorem DaAll.mem {vs : List V} {ds : List PyData} {v : V} (h : DaAll K G vs ds) (m : v ∈ vs) : ∃ d, d ∈ ds ∧ Da K G v d := by
  obtain ⟨i, e⟩ := List.mem_iff_getElem?.mp m
  obtain ⟨d, e2, q⟩ := h.get e
  exact ⟨d, List.mem_of_getElem? e2, q⟩
theorem DaAll.take : ∀ {vs : List V} {ds : List PyData} (n : Nat), DaAll K G vs ds → DaAll K G (vs.take n) (ds.take n)
  | _, _, 0, _ => .nil
  | _, _, _ + 1, .nil => .nil
  | _, _, n + 1, .cons h t => .cons h (DaAll.take n t)
theorem DaAll.drop : ∀ {vs : List V} {ds : List PyData} (n : Nat), DaAll K G vs ds → DaAll K G (vs.drop n) (ds.drop n)
  | _, _, 0, h => h
  | _, _, _ + 1, .nil => .nil
  | _, _, n + 1, .cons _ t => DaAll.drop n t
theorem DaAll.rep {v : V} {d : PyData} (h : Da K G v d) : ∀ n : Nat, DaAll K G (List.replicate n v) (List.replicate n d)
  | 0 => .nil
  | n + 1 => .cons h (DaAll.rep h n)
theorem DaAll.set {v : V} {d : PyData} (h : Da K G v d) : ∀ {vs : List V} {ds : List PyData} (i : Nat), DaAll K G vs ds → DaAll K G (vs.set i v) (ds.set i d)
  | _, _, _, .nil => .nil
  | _, _, 0, .cons _ t => .cons h t
  | _, _, i + 1, .cons q t => .cons q (DaAll.set h i t)
theorem DaAll.flat {vs : List V} {ds : List PyData} (h : DaAll K G vs ds) : ∀ n : Nat, DaAll K G (List.replicate n vs).flatten (List.replicate n ds).flatten
  | 0 => .nil
  | n + 1 => by
    rw [List.replicate_succ, List.replicate_succ, List.flatten_cons, List.flatten_cons]
    exact h.append (DaAll.flat h n)
end

theorem pairs_keys {P : Program} {w : World} : ∀ {es : List DictEntry} {kvs : List (Key × V)} {vs : List (Key × Value)}, KV kvs vs → Pairs (mixKind P w) es vs →
    Vals (kvs.map fun p => kV p.1) (es.map (·.key)) ∧ Vals (kvs.map (·.2)) (es.map (·.val))
  | _, _, _, .nil, .nil => ⟨.nil, .nil⟩
  | e :: es, (k, v) :: kvs, (k', u) :: vs, .cons ⟨r1, r2⟩ t, .cons h1 h2 h3 => by
    obtain ⟨a, b⟩ := pairs_keys t h3
    refine ⟨.cons ?_ a, .cons ?_ b⟩
    · have r1 : k = k' := r1
      have h1 : keyIs k' e.key = true := h1
      subst r1
      rcases keyIs_shape h1 with ⟨i, tk, rfl, q⟩ | ⟨x, tk, rfl, q⟩
      · exact ⟨tk, q⟩
      · exact ⟨tk, q⟩
    · show RelV v e.val
      rw [h2]
      exact r2
theorem keyD_da {K : PySem.W.Frag} {G : Hp} : ∀ (ks : List Key), DaAll K G (ks.map kV) (ks.map keyD)
  | [] => .nil
  | .inl i :: r => .cons (.int i) (keyD_da r)
  | .inr x :: r => .cons (.str x) (keyD_da r)

section
variable {X : Cx} {pins : List (Addr × Obj)} {σ : St} {H G : Hp} {s : Shared}
theorem zip_fst : ∀ {as bs : List PyData}, as.length = bs.length → (as.zip bs).map (·.1) = as
  | [], _, _ => by simp
  | a :: as, b :: bs, h => by
    rw [List.zip_cons_cons, List.map_cons, zip_fst (by simpa using h)]
theorem zip_snd : ∀ {as bs : List PyData}, as.length = bs.length → (as.zip bs).map (·.2) = bs
  | [], [], _ => rfl
  | [], _ :: _, h => by simp at h
  | a :: as, [], h => by simp at h
  | a :: as, b :: bs, h => by
    rw [List.zip_cons_cons, List.map_cons, zip_snd (by simpa using h)]
/-- what stands at a dict's address -/
theorem dict_at {a : Addr} {kvs : List (Key × V)} (I : Inv X pins σ H s) (h : H a = some (.dK kvs)) : ∃ o es n, s.heap.get? a = some o ∧ o.cls = .type "dict" ∧ o.data = .dict es n ∧ (a == sysModules) = false ∧
    Vals (kvs.map fun p => kV p.1) (es.toList.map (·.key)) ∧ Vals (kvs.map (·.2)) (es.toList.map (·.val)) := by
  obtain ⟨_, hs, vs, r, o, es, ep, h1, h2, h3, _, h5, _⟩ := (show ObjOk X.prog X.w H s.heap a (.dK kvs) from I.hok a _ h)
  obtain ⟨q1, q2⟩ := pairs_keys r h5
  exact ⟨o, es, ep, h1, h2.1, h3, hs, q1, q2⟩
abbrev RkOf (X : Cx) (h : Heap) (u : Value) (d : PyData) : Prop := ∃ as bs, Reads h u d as ∧ ReadAtMost h d.depth bs ∧ ReprK X.prog X.w bs h d.depth u d.shown
abbrev RkAll (X : Cx) (h : Heap) (us : List Value) (ds : List PyData) : Prop := ∃ as bs, ReadsAll h us ds as ∧ ReadAtMost h (PyData.depthAll ds) bs ∧ ReprAllK X.prog X.w bs h (PyData.depthAll ds) us (PyData.shownAll ds)
theorem no_addr {h : Heap} {n : Nat} : ReadAtMost h n [] := fun b q => absurd q List.not_mem_nil
theorem rk_keys : ∀ (ks : List Key) (us : List Value), Vals (ks.map kV) us → PyData.showableAll (ks.map keyD) = true → (∀ t ∈ PyData.shownAll (ks.map keyD), t.length ≤ sizeLine) → RkAll X s.heap us (ks.map keyD)
  | [], _, .nil, _, _ => ⟨_, [], .nil, no_addr, .nil⟩
  | k :: ks, _, .cons r t, hs, hz => by
    rw [List.map_cons, PyData.showableAll, Bool.and_eq_true] at hs
    rw [List.map_cons] at hz ⊢
    unfold PyData.shownAll at hz
    obtain ⟨as, bs, q1, q2, q3⟩ := rk_keys ks _ t hs.2 fun z m => hz z (List.mem_cons_of_mem _ m)
    have h0 := hz _ List.mem_cons_self
    cases k with
    | inl i =>
      obtain ⟨tk, rfl⟩ := r
      exact ⟨_, bs, .cons (.int i tk) q1, q2.mono (Nat.le_max_right _ _), .cons (.of_is (ReprIs.int tk (by simpa [keyD, PyData.showable] using hs.1)) _ _ _) (q3.more_le (fun _ m => m) (Nat.le_max_right _ _))⟩
    | inr x =>
      obtain ⟨tk, rfl⟩ := r
      exact ⟨_, bs, .cons (.str x tk) q1, q2.mono (Nat.le_max_right _ _), .cons (.of_is (ReprIs.str x tk (by simpa only [keyD, PyData.shown] using h0)) _ _ _) (q3.more_le (fun _ m => m) (Nat.le_max_right _ _))⟩
/-- the entries of a dict as repr reads them -/
theorem rk_entries {es : List DictEntry} {kvs : List (Key × V)} {ds : List PyData} (vk : Vals (kvs.map fun p => kV p.1) (es.map (·.key))) (hl : kvs.length = ds.length)
    (hv : PyData.showableAll ds = true → (∀ t ∈ PyData.shownAll ds, t.length ≤ sizeLine) → RkAll X s.heap (es.map (·.val)) ds) (hs : PyData.showableKv ((kvs.map fun p => keyD p.1).zip ds) = true)
    (hz : (dictText (PyData.shownKv ((kvs.map fun p => keyD p.1).zip ds))).length ≤ sizeLine) :
    ∃ as1 as2 bs, ReadsAll s.heap (es.map (·.key)) (((kvs.map fun p => keyD p.1).zip ds).map (·.1)) as1 ∧ ReadsAll s.heap (es.map (·.val)) (((kvs.map fun p => keyD p.1).zip ds).map (·.2)) as2 ∧
      ReadAtMost s.heap (PyData.depthKv ((kvs.map fun p => keyD p.1).zip ds)) bs ∧ ReprEntriesK X.prog X.w bs s.heap (PyData.depthKv ((kvs.map fun p => keyD p.1).zip ds)) es (PyData.shownKv ((kvs.map fun p => keyD p.1).zip ds)) := by
  have hll : (kvs.map fun p => keyD p.1).length = ds.length := by rw [List.length_map]; exact hl
  generalize hkv : (kvs.map fun p => keyD p.1).zip ds = kv at hs hz ⊢
  obtain ⟨s1, s2⟩ := PyData.showableKv_split kv hs
  have e1 : kv.map (·.1) = kvs.map fun p => keyD p.1 := by rw [← hkv]; exact zip_fst hll
  have e2 : kv.map (·.2) = ds := by rw [← hkv]; exact zip_snd hll
  have ek : (kvs.map (·.1)).map kV = kvs.map fun p => kV p.1 := by rw [List.map_map]; rfl
  have ed : (kvs.map (·.1)).map keyD = kvs.map fun p => keyD p.1 := by rw [List.map_map]; rfl
  have z1 : ∀ t ∈ PyData.shownAll (kv.map (·.1)), t.length ≤ sizeLine := fun t ht => let ⟨p, hp, hl⟩ := PyData.shownKv_key_le kv t ht; Nat.le_trans hl (Nat.le_trans (dictText_mem_le hp) hz)
  have z2 : ∀ t ∈ PyData.shownAll (kv.map (·.2)), t.length ≤ sizeLine := fun t ht => let ⟨p, hp, hl⟩ := PyData.shownKv_val_le kv t ht; Nat.le_trans hl (Nat.le_trans (dictText_mem_le hp) hz)
  have m1 := PyData.depthAll_keys_le kv
  have m2 := PyData.depthAll_vals_le kv
  rw [PyData.shownKv_eq]
  rw [e1] at s1 z1 m1 ⊢
  rw [e2] at s2 z2 m2 ⊢
  rw [← ed] at s1 z1 m1 ⊢
  rw [← ek] at vk
  obtain ⟨as1, b1, r1, a1, k1⟩ := rk_keys (X := X) (s := s) _ _ vk s1 z1
  obtain ⟨as2, b2, r2, a2, k2⟩ := hv s2 z2
  exact ⟨as1, as2, b1 ++ b2, r1, r2, (a1.mono m1).append (a2.mono m2), ReprEntriesK.of_two es _ _ (k1.more_le (fun b q => List.mem_append_left _ q) m1) (k2.more_le (fun b q => List.mem_append_right _ q) m2)⟩
mutual
theorem Da.rk (I : Inv X pins σ H s) (sm : Same G H) : ∀ {d : PyData} {v : V} {u : Value}, Da X.K G v d → RelV v u → d.showable = true → d.shown.length ≤ sizeLine → RkOf X s.heap u d
  | _, _, _, .non, r, _, _ => by
    cases r
    exact ⟨_, [], .none, no_addr, by simp only [PyData.shown]; exact .of_is ReprIs.none _ _ _⟩
  | _, _, _, .bl b, r, _, _ => by
    cases r
    exact ⟨_, [], .bool b, no_addr, by simp only [PyData.shown]; exact .of_is (ReprIs.bool b) _ _ _⟩
  | _, _, _, .int i, r, hs, _ => by
    obtain ⟨t, rfl⟩ := r
    exact ⟨_, [], .int i t, no_addr, by simp only [PyData.shown]; exact .of_is (ReprIs.int t (by simpa [PyData.showable] using hs)) _ _ _⟩
  | _, _, _, .str x, r, _, hz => by
    obtain ⟨t, rfl⟩ := r
    exact ⟨_, [], .str x t, no_addr, by simp only [PyData.shown]; exact .of_is (ReprIs.str x t (by simpa only [PyData.shown] using hz)) _ _ _⟩
  | .list ds, .ref a, _, .lst h t, r, hs, hz => by
    cases r
    have hz2 : (listText (PyData.shownAll ds)).length ≤ sizeLine := by simpa only [PyData.shown] using hz
    obtain ⟨_, its, n, rv, e⟩ := (show ObjOk X.prog X.w H s.heap a (.lst _) from I.hok a _ (sm _ _ h))
    obtain ⟨as, bs, q1, q2, q3⟩ := DaAll.rk I sm t rv (by simpa [PyData.showable] using hs) fun z hz' => Nat.le_trans (listText_mem_le hz') hz2
    have rd : Reads s.heap (.ref a) (.list ds) _ := .list e rfl rfl q1
    have hna : a ∉ bs := not_mem_of_deeper rd (by simp only [PyData.depth]; omega) q2
    refine ⟨_, a :: bs, rd, ReadAtMost.cons rd (by simp only [PyData.depth]; omega) q2, ?_⟩
    simp only [PyData.depth, PyData.shown]
    cases its with
    | nil =>
      cases q1
      simp only [PyData.shownAll, listText_nil]
      exact ReprK.listEmpty e rfl rfl
    | cons y l => exact ReprK.list e rfl rfl hna (by simpa using q3.length_eq) fun i z e2 => q3.item i z (by simpa using e2)
  | .tuple ds, .ref a, _, .tup h t, r, hs, hz => by
    cases r
    have hz2 : (tupleText (PyData.shownAll ds)).length ≤ sizeLine := by simpa only [PyData.shown] using hz
    obtain ⟨its, rv, ⟨o, ho, hc, n, hd⟩, _⟩ := I.tuple (sameT sm h)
    obtain ⟨as, bs, q1, q2, q3⟩ := DaAll.rk I sm t rv (by simpa [PyData.showable] using hs) fun z hz' => Nat.le_trans (tupleText_mem_le hz') hz2
    have rd : Reads s.heap (.ref a) (.tuple ds) _ := .tuple ho hc hd q1
    have hna : a ∉ bs := not_mem_of_deeper rd (by simp only [PyData.depth]; omega) q2
    refine ⟨_, a :: bs, rd, ReadAtMost.cons rd (by simp only [PyData.depth]; omega) q2, ?_⟩
    simp only [PyData.depth, PyData.shown]
    exact ReprK.tuple ho hc hd hna q3
  | _, .ref a, _, @Da.dct _ _ _ kvs ds h t, r, hs, hz => by
    cases r
    have hz2 : (dictText (PyData.shownKv ((kvs.map fun p => keyD p.1).zip ds))).length ≤ sizeLine := by simpa only [PyData.shown] using hz
    obtain ⟨o, es, n, ho, hc, hd, hsys, vk, vv⟩ := dict_at I (sm _ _ h)
    obtain ⟨as1, as2, bs, r1, r2, a3, k3⟩ := rk_entries (X := X) (s := s) vk (by rw [← t.length, List.length_map]) (fun s2 z2 => DaAll.rk I sm t vv s2 z2) (by simpa [PyData.showable] using hs) hz2
    have rd : Reads s.heap (.ref a) (.dict ((kvs.map fun p => keyD p.1).zip ds)) _ := .dict ho hc hd r1 r2
    have hna : a ∉ bs := not_mem_of_deeper rd (by simp only [PyData.depth]; omega) a3
    refine ⟨_, a :: bs, rd, ReadAtMost.cons rd (by simp only [PyData.depth]; omega) a3, ?_⟩
    simp only [PyData.depth, PyData.shown]
    exact ReprK.dict ho hc hd hsys hna k3
theorem DaAll.rk (I : Inv X pins σ H s) (sm : Same G H) : ∀ {ds : List PyData} {vs : List V} {us : List Value}, DaAll X.K G vs ds → Vals vs us → PyData.showableAll ds = true → (∀ t ∈ PyData.shownAll ds, t.length ≤ sizeLine) → RkAll X s.heap us ds
  | _, _, _, .nil, .nil, _, _ => ⟨_, [], .nil, no_addr, .nil⟩
  | _, _, _, .cons h t, .cons r rs, hs, hz => by
    rw [PyData.showableAll, Bool.and_eq_true] at hs
    unfold PyData.shownAll at hz
    obtain ⟨as1, b1, q1, a1, k1⟩ := Da.rk I sm h r hs.1 (hz _ List.mem_cons_self)
    obtain ⟨as2, b2, q2, a2, k2⟩ := DaAll.rk I sm t rs hs.2 fun z m => hz z (List.mem_cons_of_mem _ m)
    refine ⟨_, b1 ++ b2, .cons q1 q2, (a1.mono (Nat.le_max_left _ _)).append (a2.mono (Nat.le_max_right _ _)), ?_⟩
    exact .cons ((k1.more fun b q => List.mem_append_left _ q).level_le (Nat.le_max_left _ _)) (k2.more_le (fun b q => List.mem_append_right _ q) (Nat.le_max_right _ _))
end
end

/-! ### repr(x) -/
def rRepr (K : PySem.W.Frag) : List V → Hp → VK → Prop := fun xs H Q => ∃ (v : V) (d : PyData) (G : Hp), xs = [v] ∧ Same G H ∧ Da K G v d ∧ d.showable = true ∧ d.depth ≤ 60 ∧ d.shown.length ≤ sizeLine ∧ Q (.str d.shown) H
section
variable {X : Cx}
theorem call_repr (hgd : X.A.guards = some []) (hu : X.A.units + 64 < cLine) : CallR X (.builtin "repr") (rRepr X.K) := by
  intro pins s σ H xs us Q I r h
  obtain ⟨v, d, G, rfl, sm, hd, hs, hdp, hz, q⟩ := h
  obtain ⟨u, rfl, rv⟩ := vals1 r
  have done : ∀ h' t tk, (∀ b o, s.heap.get? b = some o → h'.get? b = some o) → EP X pins σ Q (.str d.shown t) { s with heap := h', toks := tk } := fun h' t tk k => ⟨.str _, H, I.kept k, ⟨_, rfl⟩, q⟩
  cases hd with
  | non => cases rv; exact P.repr_of_none ⟨.str _, H, I.tok _, ⟨_, rfl⟩, by simpa only [PyData.shown] using q⟩
  | bl b => cases rv; exact P.repr_of_bool ⟨.str _, H, I.tok _, ⟨_, rfl⟩, by simpa only [PyData.shown] using q⟩
  | int i => obtain ⟨t, rfl⟩ := rv; exact P.repr_of_int (by simpa [PyData.showable] using hs) ⟨.str _, H, I.tok _, ⟨_, rfl⟩, by simpa only [PyData.shown] using q⟩
  | str x => obtain ⟨t, rfl⟩ := rv; exact P.repr_of_str ⟨.str _, H, I.tok _, ⟨_, rfl⟩, by simpa only [PyData.shown] using q⟩ (by simpa only [PyData.shown] using hz)
  | @lst a xs ds h t =>
    cases rv
    have hz2 : (listText (PyData.shownAll ds)).length ≤ sizeLine := by simpa only [PyData.shown] using hz
    obtain ⟨_, its, n, rw', e⟩ := (show ObjOk X.prog X.w H s.heap a (.lst _) from I.hok a _ (sm _ _ h))
    obtain ⟨as, bs, q1, q2, q3⟩ := DaAll.rk I sm t rw' (by simpa [PyData.showable] using hs) fun z hz' => Nat.le_trans (listText_mem_le hz') hz2
    have rd : Reads s.heap (.ref a) (.list ds) _ := .list e rfl rfl q1
    have hna : a ∉ bs := not_mem_of_deeper rd (by simp only [PyData.depth]; omega) q2
    simp only [PyData.depth] at hdp
    refine call_repr_slot (T := "list") (idr := "list.__repr__") (by omega) ⟨_, e, rfl⟩ F.slot_list_repr.toG ?_
    cases its with
    | nil =>
      cases q1
      refine call_list_repr_empty ⟨_, e, rfl⟩ e rfl ⟨_, _, rfl, ?_⟩
      have := done s.heap s.toks (s.toks + 1) fun _ _ k => k
      simpa only [PyData.shown, PyData.shownAll, listText_nil] using this
    | cons y l =>
      exact call_list_reprK e rfl rfl hna (by simpa using q3.length_eq) (fun i z e2 => q3.item i z (by simpa using e2)) hgd (fun b _ => Clear.nil b) (by show X.A.units + 1 + _ < _; omega) (fun _ _ k => k)
        (fun h' t tk k => ⟨_, _, rfl, by have := done h' t tk k; simpa only [PyData.shown] using this⟩) hz2
  | @tup a xs ds h t =>
    cases rv
    have hz2 : (tupleText (PyData.shownAll ds)).length ≤ sizeLine := by simpa only [PyData.shown] using hz
    obtain ⟨its, rw', ⟨o, ho, hc, n, hdd⟩, _⟩ := I.tuple (sameT sm h)
    obtain ⟨as, bs, q1, q2, q3⟩ := DaAll.rk I sm t rw' (by simpa [PyData.showable] using hs) fun z hz' => Nat.le_trans (tupleText_mem_le hz') hz2
    have rd : Reads s.heap (.ref a) (.tuple ds) _ := .tuple ho hc hdd q1
    have hna : a ∉ bs := not_mem_of_deeper rd (by simp only [PyData.depth]; omega) q2
    simp only [PyData.depth] at hdp
    exact call_repr_slot (T := "tuple") (idr := "tuple.__repr__") (by omega) ⟨_, ho, hc⟩ F.slot_tuple_repr
      (call_tuple_reprK ho hc hdd hna q3 hgd (fun b _ => Clear.nil b) (by show X.A.units + 1 + _ < _; omega) (fun _ _ k => k) (fun h' t tk k => ⟨_, _, rfl, by have := done h' t tk k; simpa only [PyData.shown] using this⟩) hz2)
  | @dct a kvs ds h t =>
    cases rv
    have hz2 : (dictText (PyData.shownKv ((kvs.map fun p => keyD p.1).zip ds))).length ≤ sizeLine := by simpa only [PyData.shown] using hz
    obtain ⟨o, es, n, ho, hc, hdd, hsys, vk, vv⟩ := dict_at I (sm _ _ h)
    obtain ⟨as1, as2, bs, r1, r2, a3, k3⟩ := rk_entries (X := X) (s := s) vk (by rw [← t.length, List.length_map]) (fun s2 z2 => DaAll.rk I sm t vv s2 z2) (by simpa [PyData.showable] using hs) hz2
    have rd : Reads s.heap (.ref a) (.dict ((kvs.map fun p => keyD p.1).zip ds)) _ := .dict ho hc hdd r1 r2
    have hna : a ∉ bs := not_mem_of_deeper rd (by simp only [PyData.depth]; omega) a3
    simp only [PyData.depth] at hdp
    exact call_repr_slot (T := "dict") (idr := "dict.__repr__") (by omega) ⟨_, ho, hc⟩ F.slot_dict_repr
      (call_dict_reprK ho hc hdd hsys hna k3 hgd (fun b _ => Clear.nil b) (by show X.A.units + 1 + _ < _; omega) (fun _ _ k => k) (fun h' t tk k => ⟨_, _, rfl, by have := done h' t tk k; simpa only [PyData.shown] using this⟩) hz2)
end
end L2.Hx

/-! Own rules: «x in words» for any data x, enumerate of a tuple. -/
namespace L2.Hx
open PySem PySem.Spec PyProof.Rows
open AutoSeq1 (wpAny_loadPart')

section
theorem str_eq_dict (b : Str) (u : Tok) (l : Addr) (es : Array DictEntry) (n : Nat) (dd : Option Addr) (sl : Array (Option Value)) :
    Meets (Builtin.«str.__eq__» ⟨[.str b u, .ref l], []⟩) (fun _ R s => s.heap.get? l = some { cls := .type "dict", dict := dd, data := .dict es n, slots := sl } ∧ R (.ok (.ret .notImplemented)) s) :=
  .of_wp fun prog w A R s h => by
    obtain ⟨hp, g, d, tk, os⟩ := s
    obtain ⟨hl, h⟩ := h
    wp_walk using wpAny_load hl
    exact ⟨_, rfl, h⟩
theorem dict_eq_str (b : Str) (u : Tok) (l : Addr) (es : Array DictEntry) (n : Nat) (dd : Option Addr) (sl : Array (Option Value)) :
    Meets (Builtin.«dict.__eq__» ⟨[.ref l, .str b u], []⟩) (fun _ R s => s.heap.get? l = some { cls := .type "dict", dict := dd, data := .dict es n, slots := sl } ∧ R (.ok (.ret .notImplemented)) s) :=
  .of_wp fun prog w A R s h => by
    obtain ⟨hp, g, d, tk, os⟩ := s
    obtain ⟨hl, h⟩ := h
    have f1 := F.sub_str_dict
    wp_walk using wpAny_load hl
    exact ⟨_, rfl, h⟩
theorem str_is_dict {A : Around} {s : Shared} {l : Addr} {es : Array DictEntry} {n : Nat} {dd : Option Addr} {sl : Array (Option Value)} (b : Str) (u : Tok) (ho : s.heap.get? l = some { cls := .type "dict", dict := dd, data := .dict es n, slots := sl }) (hu : A.units < cLine) :
    SeqAt.EqAt A s (.str b u) (.ref l) false := fun prog w E Q h => by
  unfold eqBool
  refine wpAny_holding ?_
  refine wpAny_ite_split (fun hab => absurd (eq_of_beq hab) nofun) fun _ => ?_
  refine wpAny_bind ?_
  exact SeqAt.rc_eq_decline_or (k := false) (typeIs_str s b u) ⟨_, ho, rfl⟩ (by decide) F.sub_dict_str F.slot_str_eq F.slot_dict_eq_refl
    (fun Q2 hq => call_meets F.slot_str_eq (typeIs_str s b u) F.entry_str_eq (F.args_str_eq_2 _ _) (str_eq_dict b u l es n dd sl) ⟨ho, hq⟩)
    (fun Q2 hq => call_meets F.slot_dict_eq_refl ⟨_, ho, rfl⟩ F.entry_dict_eq (F.args_dict_eq_2 _ _) (dict_eq_str b u l es n dd sl) ⟨ho, hq⟩)
    (fun Q2 hq => wpAny_of_eq (rfl : isSame (.str b u) (.ref l) = pure false) hq) (.inr hu) (wpAny_truthy_bool h)
end
/-- is the word a text among these -/
def inWs (d : PyData) (ws : List Str) : Bool := match d with
  | .str z => decide (z ∈ ws)
  | _ => false
def eqW (d : PyData) (u : Value) : Bool := match d, u with
  | .str z, .str y _ => y == z
  | _, _ => false
section
variable {X : Cx} {pins : List (Addr × Obj)} {σ : St} {H G : Hp} {s : Shared}
theorem any_eqW : ∀ {d : PyData} {ws : List Str} {us : List Value}, Vals (ws.map V.str) us → us.any (eqW d) = inWs d ws
  | d, [], _, .nil => by
    cases d <;> simp [inWs]
  | d, w :: ws, _, .cons r t => by
    obtain ⟨tk, rfl⟩ := r
    rw [List.any_cons, any_eqW (d := d) t]
    cases d <;> simp [eqW, inWs]
    rename_i z
    by_cases h : w = z
    · subst h
      simp
    · simp [h, Ne.symm h]
theorem eq_word (hu : X.A.units + 64 < cLine) (I : Inv X pins σ H s) (sm : Same G H) {v : V} {d : PyData} {x : Value} (hd : Da X.K G v d) (rx : RelV v x) (y : Str) (t : Tok) : SeqAt.EqAt X.A.in1 s (.str y t) x (eqW d (.str y t)) := by
  have hu1 : X.A.in1.units < cLine := by show X.A.units + 1 < _; omega
  cases hd with
  | non => cases rx; exact SeqAt.EqAt.str_none y t
  | bl b => cases rx; exact SeqAt.EqAt.str_bool y t b
  | int i => obtain ⟨tk, rfl⟩ := rx; exact SeqAt.EqAt.str_int y t i tk
  | str z => obtain ⟨tk, rfl⟩ := rx; exact SeqAt.EqAt.str_str y t z tk
  | @lst a xs ds h _ =>
    cases rx
    obtain ⟨_, its, n, _, e⟩ := (show ObjOk X.prog X.w H s.heap a (.lst _) from I.hok a _ (sm _ _ h))
    exact SeqAt.EqAt.str_list y t ⟨_, e, rfl, _, rfl⟩ hu1
  | @tup a xs ds h _ =>
    cases rx
    obtain ⟨its, _, p, _⟩ := I.tuple (sameT sm h)
    exact SeqAt.EqAt.str_tuple y t p hu1
  | @dct a kvs ds h _ =>
    cases rx
    obtain ⟨o, es, n, ho, hc, hdd, _⟩ := dict_at I (sm _ _ h)
    obtain ⟨c, dd, data, sl⟩ := o
    simp only at hc hdd
    subst hc hdd
    exact str_is_dict y t ho hu1
/-- x in ws, x any data, ws a list or tuple of texts -/
def rInW (K : PySem.W.Frag) (neg : Bool) : R2 := fun x y H Q => ∃ (p : Addr) (ws : List Str) (d : PyData) (G : Hp), y = .ref p ∧ (SqL K H p (ws.map V.str) ∨ SqT K H p (ws.map V.str)) ∧ Same G H ∧ Da K G x d ∧ Q (.bl (if neg then !inWs d ws else inWs d ws)) H
theorem in_words (hu : X.A.units + 64 < cLine) (I : Inv X pins σ H s) (sm : Same G H) {v : V} {d : PyData} {x : Value} (hd : Da X.K G v d) (rx : RelV v x) : ∀ {ws : List Str} {us : List Value}, Vals (ws.map V.str) us → ∀ u ∈ us, SeqAt.EqAt X.A.in1 s u x (eqW d u)
  | [], _, .nil => fun u hu => by cases hu
  | y :: ws, u :: us, .cons r t => fun u' hu' => by
    rcases List.mem_cons.mp hu' with rfl | hu'
    · obtain ⟨tk, rfl⟩ := r
      exact eq_word hu I sm hd rx y tk
    · exact in_words hu I sm hd rx t u' hu'
theorem op_inW (hu : X.A.units + 64 < cLine) : OpR X (compareOp .In) (rInW X.K false) := by
  intro pins s σ H x y v u Q I rx ry h
  obtain ⟨p, ws, d, G, rfl, hq, sm, hd, q⟩ := h
  cases ry
  have q : Q (.bl (inWs d ws)) H := q
  rcases hq with hq | hq
  · obtain ⟨its, r, pl, _⟩ := I.list hq
    refine SeqAt.in_listAt (eqW d) pl.isList (fun z hz => in_words hu I sm hd rx r z (by simpa using hz)) ⟨.bl _, H, I, rfl, ?_⟩
    rw [show its.toArray.any (eqW d) = its.any (eqW d) by simp, any_eqW r]
    exact q
  · obtain ⟨its, r, pl, _⟩ := I.tuple hq
    refine SeqAt.in_tupleAt (eqW d) pl (fun z hz => in_words hu I sm hd rx r z (by simpa using hz)) ⟨.bl _, H, I, rfl, ?_⟩
    rw [show its.toArray.any (eqW d) = its.any (eqW d) by simp, any_eqW r]
    exact q
theorem op_notInW (hu : X.A.units + 64 < cLine) : OpR X (compareOp .NotIn) (rInW X.K true) := by
  intro pins s σ H x y v u Q I rx ry h
  obtain ⟨p, ws, d, G, rfl, hq, sm, hd, q⟩ := h
  cases ry
  have q : Q (.bl (!inWs d ws)) H := q
  rcases hq with hq | hq
  · obtain ⟨its, r, pl, _⟩ := I.list hq
    refine SeqAt.notIn_listAt (eqW d) pl.isList (fun z hz => in_words hu I sm hd rx r z (by simpa using hz)) ⟨.bl _, H, I, rfl, ?_⟩
    rw [show its.toArray.any (eqW d) = its.any (eqW d) by simp, any_eqW r]
    exact q
  · obtain ⟨its, r, pl, _⟩ := I.tuple hq
    refine SeqAt.notIn_tupleAt (eqW d) pl (fun z hz => in_words hu I sm hd rx r z (by simpa using hz)) ⟨.bl _, H, I, rfl, ?_⟩
    rw [show its.toArray.any (eqW d) = its.any (eqW d) by simp, any_eqW r]
    exact q
end

/-! ### isinstance of data -/
def tyD : PyData → String
  | .none => "NoneType"
  | .bool _ => "bool"
  | .int _ => "int"
  | .str _ => "str"
  | .list _ => "list"
  | .tuple _ => "tuple"
  | .dict _ => "dict"
def isTup : PyData → Bool
  | .tuple _ => true
  | _ => false
def isStr : PyData → Bool
  | .str _ => true
  | _ => false
def rIsiD (K : PySem.W.Frag) : List V → Hp → VK → Prop := fun xs H Q => ∃ (x : V) (d : PyData) (G : Hp), Same G H ∧ Da K G x d ∧ ((xs = [x, .ty "tuple"] ∧ Q (.bl (isTup d)) H) ∨ (xs = [x, .ty "str"] ∧ Q (.bl (isStr d)) H))
section
variable {X : Cx} {pins : List (Addr × Obj)} {σ : St} {H G : Hp} {s : Shared}
theorem kit_da (I : Inv X pins σ H s) (sm : Same G H) {v : V} {d : PyData} {u : Value} (hd : Da X.K G v d) (rv : RelV v u) : ∃ P : Heap → Prop, PySem.W.KitX X.K u (.type (tyD d)) P ∧ P s.heap ∧ u ≠ .builtin "__main__.__loader__#opaque" := by
  cases hd with
  | non => cases rv; exact ⟨_, PySem.W.kitx_none, True.intro, fun z => nomatch z⟩
  | bl b => cases rv; exact ⟨_, PySem.W.kitx_bool, True.intro, fun z => nomatch z⟩
  | int i => obtain ⟨t, rfl⟩ := rv; exact ⟨_, PySem.W.kitx_int, True.intro, fun z => nomatch z⟩
  | str x => obtain ⟨t, rfl⟩ := rv; exact ⟨_, PySem.W.kitx_str, True.intro, fun z => nomatch z⟩
  | @lst a xs ds h _ =>
    cases rv
    obtain ⟨_, its, n, _, e⟩ := (show ObjOk X.prog X.w H s.heap a (.lst _) from I.hok a _ (sm _ _ h))
    exact ⟨_, PySem.W.kitx_list, ⟨_, e, rfl⟩, fun z => nomatch z⟩
  | @tup a xs ds h _ =>
    cases rv
    obtain ⟨its, _, ⟨o, ho, hc, _⟩, _⟩ := I.tuple (sameT sm h)
    exact ⟨_, PySem.W.kitx_tuple, ⟨o, ho, hc⟩, fun z => nomatch z⟩
  | @dct a kvs ds h _ =>
    cases rv
    obtain ⟨o, es, n, ho, hc, _⟩ := dict_at I (sm _ _ h)
    exact ⟨_, PySem.W.kitx_dict, ⟨o, ho, hc⟩, fun z => nomatch z⟩
theorem kitB_tup : ∀ d : PyData, kitB (tyD d) "tuple" = some (isTup d)
  | .none => by
    show kitB "NoneType" "tuple" = some false
    decide +kernel
  | .bool _ => by
    show kitB "bool" "tuple" = some false
    decide +kernel
  | .int _ => by
    show kitB "int" "tuple" = some false
    decide +kernel
  | .str _ => by
    show kitB "str" "tuple" = some false
    decide +kernel
  | .list _ => by
    show kitB "list" "tuple" = some false
    decide +kernel
  | .tuple _ => by
    show kitB "tuple" "tuple" = some true
    decide +kernel
  | .dict _ => by
    show kitB "dict" "tuple" = some false
    decide +kernel
theorem kitB_str : ∀ d : PyData, kitB (tyD d) "str" = some (isStr d)
  | .none => by
    show kitB "NoneType" "str" = some false
    decide +kernel
  | .bool _ => by
    show kitB "bool" "str" = some false
    decide +kernel
  | .int _ => by
    show kitB "int" "str" = some false
    decide +kernel
  | .str _ => by
    show kitB "str" "str" = some true
    decide +kernel
  | .list _ => by
    show kitB "list" "str" = some false
    decide +kernel
  | .tuple _ => by
    show kitB "tuple" "str" = some false
    decide +kernel
  | .dict _ => by
    show kitB "dict" "str" = some false
    decide +kernel
theorem call_isiD : CallR X (.builtin "isinstance") (rIsiD X.K) := by
  intro pins s σ H xs us Q I r h
  obtain ⟨x, d, G, sm, hd, h⟩ := h
  rcases h with ⟨rfl, q⟩ | ⟨rfl, q⟩
  · obtain ⟨u1, u2, rfl, r1, r2⟩ := vals2 r
    cases r2
    obtain ⟨P, Z, p, hx⟩ := kit_da I sm hd r1
    exact PySem.W.kia_one Z I.kIn p (kit_ty (kitB_tup d)) hx fun tk => ⟨.bl _, H, I.tok tk, rfl, q⟩
  · obtain ⟨u1, u2, rfl, r1, r2⟩ := vals2 r
    cases r2
    obtain ⟨P, Z, p, hx⟩ := kit_da I sm hd r1
    exact PySem.W.kia_one Z I.kIn p (kit_ty (kitB_str d)) hx fun tk => ⟨.bl _, H, I.tok tk, rfl, q⟩
end

/-! ### enumerate(t), t a tuple -/
section
theorem new_enum {v : Value} {o : Obj} {HB : Heap → Prop} (B : Begins v o HB) :
    Meets (Builtin.«enumerate.__new__» ⟨[.type "enumerate", v], []⟩) (fun _ R s => HB s.heap ∧
      R (.ok (.ret (.ref (s.heap.push o).objs.size))) { s with heap := (s.heap.push o).push { cls := .type "enumerate", data := .fields #[.none, .bool false, .ref s.heap.objs.size, rawInt 0, .none, .none] } }) :=
  .of_wp fun prog w A R s h => by
    obtain ⟨hp, g, d, tk, os⟩ := s
    obtain ⟨h1, h⟩ := h
    have hsub := sub_enumerate
    have q1 : ∀ {A' : Around} {E : Value → Shared → Prop} {Q : Value → Shared → Prop}, Q (.ref hp.objs.size) ⟨hp.push o, g, d, tk, os⟩ → wpAny (model prog w) A' (pyIter v) Q E ⟨hp, g, d, tk, os⟩ :=
      fun q => B.iter prog w _ _ ⟨hp, g, d, tk, os⟩ _ h1 q
    wp_walk using q1
    refine wpAny_stack_any fun st => wpAny_pure ?_
    split
    · rename_i c _ _ _ _ _
      cases (c == Value.type "enumerate")
      · wp_walk using q1
        exact ⟨_, rfl, h⟩
      · wp_walk using q1
        exact ⟨_, rfl, h⟩
    · wp_walk using q1
      exact ⟨_, rfl, h⟩
theorem enum_of {prog : Program} {w : World} {A : Around} {E : Value → Shared → Prop} {s : Shared} {v : Value} {o : Obj} {HB : Heap → Prop} {Q : Value → Shared → Prop} (B : Begins v o HB) (h1 : HB s.heap)
    (h : ∀ h', IsEnum h' (s.heap.objs.size + 1) s.heap.objs.size 0 .none → h'.get? s.heap.objs.size = some o → h'.objs.size = s.heap.objs.size + 2 →
      (∀ b u, s.heap.get? b = some u → h'.get? b = some u) → Q (.ref (s.heap.objs.size + 1)) { s with heap := h' }) :
    wpAny (model prog w) A (call (.type "enumerate") [v]) Q E s := by
  refine callType_new F.called_enumerate (by decide) (F.typeCall_enumerate_1 _) (F.newCall_enumerate_1 _) (fun obj => F.args_object_init_2 obj _) F.entry_enumerate_new (new_enum B) ⟨h1, ?_⟩
  have hz : (s.heap.push o).objs.size = s.heap.objs.size + 1 := Heap.size_push ..
  show _ ∧ _
  rw [hz]
  have he := Heap.get?_push_size (s.heap.push o) (o := { cls := .type "enumerate", data := .fields #[.none, .bool false, .ref s.heap.objs.size, rawInt 0, .none, .none] }) rfl
  rw [hz] at he
  refine ⟨⟨_, he, rfl⟩, h _ he (Heap.get?_push_of_some _ (Heap.get?_push_size _ B.free)) (by rw [Heap.size_push, hz]) fun b u q => Heap.get?_push_of_some _ (Heap.get?_push_of_some _ q)⟩
/-- the tuple's items with their places, in new pairs -/
def Iet (K : PySem.W.Frag) (a : Addr) : It :=
  ⟨fun i H => ∃ (xs : List V) (x : V), SqT K H a xs ∧ xs[i]? = some x,
    fun i H v H' => ∃ T x, v = .ref T ∧ H T = none ∧ H' = upd H T (.tup [.int (i : Nat), x]) ∧ ∀ xs, SqT K H a xs → xs[i]? = some x,
    fun i H => ∃ xs : List V, SqT K H a xs ∧ xs.length ≤ i⟩
theorem turn_enumT {P : Program} {w : World} {K : PySem.W.Frag} {elts : List Expr} {kk : Nat} {tpos : Pos} (a e it : Addr) :
    Turn P w K (.Tuple elts kk tpos) (Iet K a) [e, it] e (fun i h => (∃ old, IsEnum h e it ((i : Nat) : Int) old) ∧ h.IsTupleIter it a i ∧ e ≠ it ∧ a ≠ it ∧ a ≠ e) where
  mem := by simp
  obj := fun i h st b hb => by
    obtain ⟨⟨old, he⟩, ⟨o, ho, hc, hd⟩, _⟩ := st
    have e' : b = e ∨ b = it := by simpa using hb
    rcases e' with z | z
    · rw [z]; exact ⟨_, he, fun v q => nomatch q⟩
    · rw [z]; exact ⟨o, ho, fun v q => by rw [hd] at q; cases q⟩
  keep := fun i h h' st k => let ⟨⟨old, he⟩, hi, hne⟩ := st; ⟨⟨old, k e (by simp) _ he⟩, hi.at fun o q => k it (by simp) o q, hne⟩
  item := by
    intro X hP hw hK hc i pins s σ H E I hf st hg
    subst hP hw hK
    obtain ⟨⟨old, he⟩, hit, hne, hai, hae⟩ := st
    obtain ⟨xs, x, hq, hx⟩ := hg
    obtain ⟨its, rv, p, hz⟩ := I.tuple hq
    obtain ⟨u, hu, ru⟩ := rv.get hx
    have hel : e < s.heap.objs.size := Heap.lt_size he
    have hil : it < s.heap.objs.size := by obtain ⟨_, q, _⟩ := hit; exact Heap.lt_size q
    have hlt : i < its.toArray.size := by
      have q := (List.getElem?_eq_some_iff.mp hu).1
      simpa using q
    refine wpAny_pyNext_enum_itemD (Draws.tuple (A := X.A.in1) (I.ok.hd hc) it a hai its.toArray) he ⟨hit, p⟩ hlt hne (fun z => by
      have z : e = it ∨ e = a := by simpa using z
      rcases z with z | z
      · exact hne z
      · exact hae z.symm) fun y h' tk hP ho hst hT hsz hk => ?_
    have ey : y = u := by
      have z : its.toArray[i]? = some y := hP
      rw [List.getElem?_toArray, hu] at z
      cases z
      rfl
    subst ey
    refine ⟨_, rfl, wpAny_letOwnedTupleGo_enum (s := { s with heap := h', toks := tk + 1 }) ho fun h'' he' sb => ?_⟩
    have hT2 : h''.get? s.heap.objs.size = some { cls := .type "tuple", data := .seq #[.int i tk, y] } := (sb.2 _ (Nat.ne_of_gt hel)).trans hT
    have new : ObjOk X.prog X.w (upd H s.heap.objs.size (.tup [.int (i : Nat), x])) h'' s.heap.objs.size (.tup [.int (i : Nat), x]) :=
      ⟨by show 2 ≤ sizeLine; decide, [.int i tk, y], .cons ⟨_, rfl⟩ (.cons ru .nil), ⟨_, hT2, rfl, _, rfl⟩⟩
    have I1 : Inv X pins σ (upd H s.heap.objs.size (.tup [.int (i : Nat), x])) { s with heap := h'', toks := tk + 1 } :=
      I.turnedNew (ch := [e, it]) (fun b ob hb q => (sb.2 b (fun z => hb (by simp [z]))).trans (hk b ob (fun z => hb (by simp [z])) (fun z => hb (by simp [z])) q)) hf (Nat.le_refl _) new
    refine ⟨.ref s.heap.objs.size, _, I1, rfl, ⟨_, x, rfl, I.hok.fresh (Nat.le_refl _), rfl, fun ys hy => by rw [I.tuple_inj hy hq]; exact hx⟩, ⟨⟨y, ?_⟩, hst.1.at fun o q => (sb.2 it (Ne.symm hne)).trans q, hne, hai, hae⟩, fun b hb => ?_⟩
    · have e1 : ((i + 1 : Nat) : Int) = (i : Int) + 1 := by omega
      rw [e1]; exact he'
    · have hb' : b < s.heap.objs.size := by
        have e' : b = e ∨ b = it := by simpa using hb
        rcases e' with z | z
        · rw [z]; exact hel
        · rw [z]; exact hil
      rw [upd_ne (Nat.ne_of_lt hb')]
      exact (hf b hb).1
  done := by
    intro X hP hw hK hc i pins s σ H E I hf st hg
    subst hP hw hK
    obtain ⟨⟨old, he⟩, hit, hne, hai, hae⟩ := st
    obtain ⟨xs, hq, hx⟩ := hg
    obtain ⟨its, rv, p, hz⟩ := I.tuple hq
    obtain ⟨f0, f1, f2, f3, f4, f5⟩ := hf it (by simp)
    have hl := rv.length
    have hh : X.A.in1.handled = none := I.ok.hd hc
    have D := Draws.tuple (prog := X.prog) (w := X.w) (A := X.A.in1) hh it a hai its.toArray
    have hT : s.TypeIs (.ref e) "enumerate" := ⟨_, he, rfl⟩
    have hx' : its.toArray[i]? = none := by simp; omega
    unfold pyNext
    refine wpAny_bind (wpAny_attempt (wpAny_callSpecial?_slot (name := Str.ofString "__next__") hT F.slot_enumerate_next
      (wpAny_call_entry F.slot_enumerate_next hT F.entry_enumerate_next ?_ (F.args_enumerate_next_1 _))))
    show wpAny _ _ (field (.ref e) 2 >>= _) _ _ _
    refine wpAny_bind (wpAny_field he rfl (x := .ref it) rfl ?_)
    refine wpAny_bind (wpAny_nextOf_tuple_end hh hit p hx' fun h' x eb ht => ?_)
    obtain ⟨o, ho, hcl⟩ := ht
    refine wpAny_bind (wpAny_isInstance (T := "StopIteration") (b := true) ⟨o, ho, hcl⟩ isSubtype_stop ?_)
    exact wpAny_pure ⟨rfl, I.turned (t' := s.toks) (fun b o hb q => eb b o hb q) f0 f1 f3 f4 f5⟩
  self := fun A i s Q E st h => let ⟨⟨_, he⟩, _⟩ := st; wpAny_pyIter_enum he h
def iEnumT (K : PySem.W.Frag) (ta : TA) : TI := fun σ H R => ta σ H fun vs H1 => ∃ a xs, vs = [.ref a] ∧ SqT K H1 a xs ∧ R (Iet K a) H1
theorem pi_enumT {X : Cx} {e : Expr} {ta : TA} {p pos tpos : Pos} {elts : List Expr} {kk : Nat} (hg : Gl X "enumerate") (hm : X.mg "enumerate" = none) (ha : PA X [e] ta) (hs : starEach [e] X.env = [(false, eval e X.env)] := by rfl) :
    PI X (.Tuple elts kk tpos) (.Call (.Name "enumerate" p) [e] [] pos) (iEnumT X.K ta) := by
  refine ⟨fun pins s σ H R I h => ?_⟩
  refine Call_ (ld_blt I hg hm boot_enumerate (PyProof.Rows.callWith_type1 (thn (ha.run pos pins s σ H _ I h) fun us s1 ⟨vs, H1, I1, r1, q1⟩ => ?_) hs rfl))
  obtain ⟨a, xs, rfl, hq, q⟩ := q1
  obtain ⟨u, rfl, r⟩ := vals1 r1
  cases r
  obtain ⟨its, rv, p', hz⟩ := I1.tuple hq
  have hlt : a < s1.heap.objs.size := p'.lt
  refine enum_of (begins_tuple a its.toArray) p' fun h' he hit hsz hk => wpAny_pyIter_enum he ?_
  have I2 : Inv X pins σ H1 { s1 with heap := h' } := I1.kept (t' := s1.toks) hk
  refine ⟨s1.heap.objs.size + 1, [s1.heap.objs.size + 1, s1.heap.objs.size], _, _, H1, rfl, I2, turn_enumT a (s1.heap.objs.size + 1) s1.heap.objs.size, ⟨⟨.none, he⟩, ⟨_, hit, rfl, rfl⟩, Nat.succ_ne_self _, Nat.ne_of_lt hlt, Nat.ne_of_lt (Nat.lt_succ_of_lt hlt)⟩, fun b hb => ?_, q⟩
  have e' : b = s1.heap.objs.size + 1 ∨ b = s1.heap.objs.size := by simpa using hb
  have hle : s1.heap.objs.size ≤ b := by
    rcases e' with z | z
    · rw [z]; exact Nat.le_add_right _ _
    · rw [z]; exact Nat.le_refl _
  exact I1.fpOk hle (I1.hok.fresh hle)
/-- for i, x in enumerate(t): the tuple stands, the pair is new -/
theorem for_enumT {K : PySem.W.Frag} {a : Addr} {xs : List V} {g : TG} {tb : TS} {D : Ends} {σ : St} {H : Hp} (Pv : Nat → St → Hp → Prop) (h0 : Pv 0 σ H) (hl : ∀ i σ H, i ≤ xs.length → Pv i σ H → SqT K H a xs)
    (hs : ∀ (i : Nat) (x : V) (T : Addr) (σ : St) (H : Hp), xs[i]? = some x → Pv i σ H → H T = none → g (.ref T) σ (upd H T (.tup [.int (i : Nat), x])) fun σ2 H2 => tb { D with nx := Pv (i + 1), ct := Pv (i + 1), bk := D.nx } σ2 H2)
    (hd : ∀ σ H, Pv xs.length σ H → D.nx σ H) : ∃ W : Nat → Nat → St → Hp → Prop, (∃ m, W 0 m σ H) ∧ ∀ i m σ H, W i m σ H →
      ((Iet K a).stop i H ∧ D.nx σ H) ∨ ((Iet K a).go i H ∧ ∃ N : St → Hp → Prop, (∀ σ2 H2, N σ2 H2 → ∃ m2, m2 < m ∧ W (i + 1) m2 σ2 H2) ∧ ∀ x H2, (Iet K a).yld i H x H2 → g x σ H2 fun σ3 H3 => tb { D with nx := N, ct := N, bk := D.nx } σ3 H3) := by
  refine ⟨fun i m σ H => m = xs.length - i ∧ i ≤ xs.length ∧ Pv i σ H, ⟨xs.length, by simp, Nat.zero_le _, h0⟩, ?_⟩
  rintro i m σ H ⟨rfl, hi, p⟩
  have q := hl i σ H hi p
  rcases Nat.lt_or_ge i xs.length with hlt | hge
  · refine .inr ⟨⟨xs, xs[i], q, by simp [hlt]⟩, Pv (i + 1), fun σ2 H2 p2 => ⟨xs.length - (i + 1), by omega, rfl, hlt, p2⟩, fun x H2 y => ?_⟩
    obtain ⟨T, z, rfl, hT, rfl, y⟩ := y
    exact hs i z T σ H (y xs q) p hT
  · have e : i = xs.length := by omega
    subst e
    exact .inl ⟨⟨xs, q, Nat.le_refl _⟩, hd σ H p⟩
end
end L2.Hx

/-! Defs of the text as promises; the law's deck beside a part G of the heap that never changes. -/
namespace L2.Hx
open PySem PySem.Spec PyProof.Rows

/-- a def of the text, where it stands -/
structure Src (K : PySem.W.Frag) (mg : Str → Option Value) (x : Str) (st : Stmt) (ps : List Str) (f : Addr) (fd : FuncData) : Prop where
  fn : Fun K x x st f fd
  at_ : mg x = some (.ref f)
  bd : Binds K fd ps []
/-- a def with its promise -/
structure Df (P : Program) (w : World) (K : PySem.W.Frag) (mg : Str → Option Value) (base : Heap) (k : Nat) (x : Str) (ps : List Str) (sp : Sp) : Prop where
  ex : ∃ (f : Addr) (fd : FuncData), FnG P w K mg base CX0 k f fd ps sp ∧ mg x = some (.ref f) ∧ PySem.W.keepIn K (.ref f) = true ∧ Binds K fd ps []
section
variable {P : Program} {w : World} {K : PySem.W.Frag} {mg : Str → Option Value} {base : Heap} {k : Nat} {x : Str} {ps : List Str} {sp : Sp}
theorem Df.mk' {st : Stmt} {N : List Str} {f : Addr} {fd : FuncData} (S : Src K mg x st ps f fd) (sc : FnScope N ps (defScope st)) (hn : ∀ vs H Q E, sp vs H Q E → vs.length = ps.length)
    (hbody : ∀ (cdv : Value) (A : Around) (outer : List Env) (s : Shared) (H : Hp) (vs : List V) (Q : VK) (E : XK), (A.deeper (envOfC x (defScope st) s.heap.objs.size f cdv)).guards = some [] → Room k (A.deeper (envOfC x (defScope st) s.heap.objs.size f cdv)) → sp vs H Q E →
      ∃ t, PSs (cxOf CX0 P w K mg base N x (defScope st) f cdv A outer s H E).nox (defBody st) t ∧ t { nx := fun _ H' => Q .non H', rt := Q } (start N vs) H) : Df P w K mg base (k + 1) x ps sp :=
  ⟨f, fd, okG S.fn sc hn hbody, S.at_, S.fn.kp, S.bd⟩
/-- a def with its promise and its text -/
def DfS (P : Program) (w : World) (K : PySem.W.Frag) (mg : Str → Option Value) (base : Heap) (k : Nat) (x : Str) (st : Stmt) (ps : List Str) (sp : Sp) : Prop := ∃ (f : Addr) (fd : FuncData), FnG P w K mg base CX0 k f fd ps sp ∧ Src K mg x st ps f fd
theorem DfS.mk' {st : Stmt} {N : List Str} {f : Addr} {fd : FuncData} (S : Src K mg x st ps f fd) (sc : FnScope N ps (defScope st)) (hn : ∀ vs H Q E, sp vs H Q E → vs.length = ps.length)
    (hbody : ∀ (cdv : Value) (A : Around) (outer : List Env) (s : Shared) (H : Hp) (vs : List V) (Q : VK) (E : XK), (A.deeper (envOfC x (defScope st) s.heap.objs.size f cdv)).guards = some [] → Room k (A.deeper (envOfC x (defScope st) s.heap.objs.size f cdv)) → sp vs H Q E →
      ∃ t, PSs (cxOf CX0 P w K mg base N x (defScope st) f cdv A outer s H E).nox (defBody st) t ∧ t { nx := fun _ H' => Q .non H', rt := Q } (start N vs) H) : DfS P w K mg base (k + 1) x st ps sp := ⟨f, fd, okG S.fn sc hn hbody, S⟩
theorem DfS.df {st : Stmt} (D : DfS P w K mg base k x st ps sp) : Df P w K mg base k x ps sp := let ⟨f, fd, a, S⟩ := D; ⟨f, fd, a, S.at_, S.fn.kp, S.bd⟩
/-- .. by keywords -/
theorem DfS.kw {st : Stmt} {ks : List Str} {g : {α : Type} → List α → List α} (D : DfS P w K mg base k x st ps sp) (h : ∀ (kV doc pm : Value) (an : Option Addr) (cdv ct : Value) (ws : List Value), ws.length = ps.length → bindArgs (PySem.W.fnOf x x (defArgs st) (defBody st) (defScope st) .none kV doc pm an cdv ct) ⟨[], ks.zip ws⟩ = pure (ps.zip (g ws))) :
    ∃ f fd, FnG P w K mg base CX0 k f fd ps sp ∧ mg x = some (.ref f) ∧ PySem.W.keepIn K (.ref f) = true ∧ KwBinds K fd ps ks g := by
  obtain ⟨f, fd, a, S⟩ := D
  refine ⟨f, fd, a, S.at_, S.fn.kp, ?_⟩
  obtain ⟨oc, od, kV, doc, pm, an, cdv, ct, osl, rfl, lk, hcd⟩ := S.fn.ex
  exact fun s ws _ hl => .of_eq (h kV doc pm an cdv ct ws hl)
theorem Df.mono {j : Nat} (F : Df P w K mg base j x ps sp) (h : j ≤ k) : Df P w K mg base k x ps sp := let ⟨f, fd, a, b, c, d⟩ := F.ex; ⟨f, fd, a.mono h, b, c, d⟩
theorem Df.imp {sp' : Sp} (F : Df P w K mg base k x ps sp) (h : ∀ vs H Q E, sp' vs H Q E → sp vs H Q E) : Df P w K mg base k x ps sp' := let ⟨f, fd, a, b, c, d⟩ := F.ex; ⟨f, fd, a.imp h, b, c, d⟩
end
section
variable {X : Cx} {k j : Nat} {x : Str} {ps : List Str} {sp : Sp} {p pos : Pos} {e : Expr} {es : List Expr} {t : TA}
theorem pe_d (F : Df X.prog X.w X.K X.mg X.base k x ps sp) (hgd : X.A.guards = some []) (hr : Room j X.A) (ha : PA X (e :: es) t) (hj : k ≤ j := by first | exact Nat.le_refl _ | decide) (hg : Gl X x := by rfl)
    (hdb : (x == ("__debug__" : Str)) = false := by decide) (he : starEach (e :: es) X.env = (false, eval e X.env) :: starEach es X.env := by rfl) (hpl : (backTo pos (starEach es X.env)).any (·.1) = false := by rfl) :
    PE X (.Call (.Name x p) (e :: es) [] pos) (tCall sp [] E0 t) := by
  obtain ⟨f, fd, a, b, c, d⟩ := F.ex
  exact pe_g a hgd (hr.mono hj) hg b c d .nil pass0 ha hdb he hpl
theorem pe_d0 (F : Df X.prog X.w X.K X.mg X.base k x ps sp) (hgd : X.A.guards = some []) (hr : Room j X.A) (hj : k ≤ j := by first | exact Nat.le_refl _ | decide) (hg : Gl X x := by rfl) (hdb : (x == ("__debug__" : Str)) = false := by decide) :
    PE X (.Call (.Name x p) [] [] pos) (tCall sp [] E0 tNil) := by
  obtain ⟨f, fd, a, b, c, d⟩ := F.ex
  exact pe_g0 a hgd (hr.mono hj) hg b c d .nil pass0 hdb
end

/-! ### the deck: a list of the list of great numbers, a mixed number, a count -/
def deckL (l : Addr) (m t : Int) : List V := [.ref l, .int m, .int t]
/-- the deck stands at p with its list at l; G, which tracks neither, is a part of H -/
structure Wd (p l : Addr) (G H : Hp) : Prop where
  same : Same G H
  gp : G p = none
  gl : G l = none
  dk : ∃ m t : Int, 0 ≤ m ∧ m < 4294967291 ∧ H p = some (.lst (deckL l m t))
  ls : ∃ ns : List Int, ns.length ≤ 63 ∧ H l = some (.lst (ns.map V.int))
theorem Wd.ne {p l : Addr} {G H : Hp} (W : Wd p l G H) : p ≠ l := by
  obtain ⟨m, t, _, _, h1⟩ := W.dk
  obtain ⟨ns, _, h2⟩ := W.ls
  intro e
  rw [e, h2] at h1
  have e2 : ns.map V.int = deckL l m t := by
    injection (Option.some.inj h1)
  cases ns with
  | nil => cases e2
  | cons n ns =>
    injection e2 with e3
    cases e3
theorem Wd.np {p l : Addr} {G H : Hp} (W : Wd p l G H) {a : Addr} (h : H a = none) : a ≠ p := by
  obtain ⟨_, _, _, _, h1⟩ := W.dk
  intro e
  rw [e, h1] at h
  cases h
theorem Wd.nl {p l : Addr} {G H : Hp} (W : Wd p l G H) {a : Addr} (h : H a = none) : a ≠ l := by
  obtain ⟨_, _, h1⟩ := W.ls
  intro e
  rw [e, h1] at h
  cases h
/-- from one state to a later one: the deck may have been drawn from, G may have grown by new objects -/
structure Ext (p l : Addr) (G H G' H' : Hp) : Prop where
  w : Wd p l G' H'
  sub : Same G G'
  keep : ∀ b o, b ≠ p → b ≠ l → H b = some o → H' b = some o
  new : ∀ b o, H b = some o → G b = none → G' b = none
section
variable {p l : Addr} {G H G1 H1 G2 H2 : Hp}
theorem Ext.refl (W : Wd p l G H) : Ext p l G H G H := ⟨W, Same.refl G, fun _ _ _ _ h => h, fun _ _ _ h => h⟩
theorem Ext.trans (a : Ext p l G H G1 H1) (W : Wd p l G H) (b : Ext p l G1 H1 G2 H2) : Ext p l G H G2 H2 :=
  ⟨b.w, a.sub.trans b.sub, fun c o n1 n2 h => b.keep c o n1 n2 (a.keep c o n1 n2 h), fun c o h g => by
    have g1 := a.new c o h g
    by_cases n1 : c = p
    · subst n1; exact b.w.gp
    · by_cases n2 : c = l
      · subst n2; exact b.w.gl
      · exact b.new c o (a.keep c o n1 n2 h) g1⟩
/-- a new object, kept in G -/
theorem Wd.put (W : Wd p l G H) {a : Addr} {o : HO} (h : H a = none) : Ext p l G H (upd G a o) (upd H a o) := by
  have ga : G a = none := W.same.free h
  have np := W.np h
  have nl := W.nl h
  refine ⟨⟨fun b u q => ?_, by rw [upd_ne np.symm]; exact W.gp, by rw [upd_ne nl.symm]; exact W.gl, ?_, ?_⟩, fun b u q => ?_, fun b u _ _ q => ?_, fun b u q g => ?_⟩
  · by_cases e : b = a
    · subst e; rw [upd_same] at q ⊢; exact q
    · rw [upd_ne e] at q ⊢; exact W.same b u q
  · obtain ⟨m, t, m0, m1, e⟩ := W.dk
    exact ⟨m, t, m0, m1, by rw [upd_ne np.symm]; exact e⟩
  · obtain ⟨ns, z, e⟩ := W.ls
    exact ⟨ns, z, by rw [upd_ne nl.symm]; exact e⟩
  · rw [upd_ne (ne_of_none q ga)]; exact q
  · rw [upd_ne (ne_of_none q h)]; exact q
  · rw [upd_ne (ne_of_none q h)]; exact g
/-- a new object, not kept in G -/
theorem Wd.tmp (W : Wd p l G H) {a : Addr} {o : HO} (h : H a = none) : Ext p l G H G (upd H a o) := by
  have ga : G a = none := W.same.free h
  have np := W.np h
  have nl := W.nl h
  refine ⟨⟨fun b u q => ?_, W.gp, W.gl, ?_, ?_⟩, Same.refl G, fun b u _ _ q => ?_, fun b u q g => g⟩
  · rw [upd_ne (ne_of_none q ga)]; exact W.same b u q
  · obtain ⟨m, t, m0, m1, e⟩ := W.dk
    exact ⟨m, t, m0, m1, by rw [upd_ne np.symm]; exact e⟩
  · obtain ⟨ns, z, e⟩ := W.ls
    exact ⟨ns, z, by rw [upd_ne nl.symm]; exact e⟩
  · rw [upd_ne (ne_of_none q h)]; exact q
/-- an object of one's own, not in G, is changed -/
theorem Wd.own (W : Wd p l G H) {a : Addr} {o : HO} (hp : a ≠ p) (hl : a ≠ l) (hg : G a = none) : Wd p l G (upd H a o) := by
  refine ⟨fun b u q => ?_, W.gp, W.gl, ?_, ?_⟩
  · rw [upd_ne (ne_of_none q hg)]; exact W.same b u q
  · obtain ⟨m, t, m0, m1, e⟩ := W.dk
    exact ⟨m, t, m0, m1, by rw [upd_ne hp.symm]; exact e⟩
  · obtain ⟨ns, z, e⟩ := W.ls
    exact ⟨ns, z, by rw [upd_ne hl.symm]; exact e⟩
/-- an object of one's own is kept from now on -/
theorem Wd.hold (W : Wd p l G H) {a : Addr} {o : HO} (hp : a ≠ p) (hl : a ≠ l) (hg : G a = none) (h : H a = some o) : Wd p l (upd G a o) H ∧ Same G (upd G a o) := by
  refine ⟨⟨fun b u q => ?_, by rw [upd_ne hp.symm]; exact W.gp, by rw [upd_ne hl.symm]; exact W.gl, W.dk, W.ls⟩, fun b u q => ?_⟩
  · by_cases e : b = a
    · subst e; rw [upd_same] at q; rw [← q]; exact h
    · rw [upd_ne e] at q; exact W.same b u q
  · rw [upd_ne (ne_of_none q hg)]; exact q
end
end L2.Hx

/-! How long the text of data can be. -/
namespace L2.Hx
open PySem PySem.Spec PyProof.Rows
mutual
def okB : PyData → Bool
  | .none | .bool _ => true
  | .int i => decide (i.natAbs.log2 < 1920)
  | .str x => x.cps.toList.all fun c => decide (c < 1114112)
  | .list xs | .tuple xs => okAll xs
  | .dict kvs => okKv kvs
def okAll : List PyData → Bool
  | [] => true
  | x :: xs => okB x && okAll xs
def okKv : List (PyData × PyData) → Bool
  | [] => true
  | (k, v) :: r => okB k && okB v && okKv r
end
mutual
/-- no less than the signs of its text -/
def siz : PyData → Nat
  | .none | .bool _ => 5
  | .int _ => 1921
  | .str x => 10 * x.length + 2
  | .list xs | .tuple xs => sizAll xs + 3
  | .dict kvs => sizKv kvs + 2
def sizAll : List PyData → Nat
  | [] => 0
  | x :: xs => siz x + 2 + sizAll xs
def sizKv : List (PyData × PyData) → Nat
  | [] => 0
  | (k, v) :: r => siz k + siz v + 4 + sizKv r
end
theorem okAll_of : ∀ {xs : List PyData}, (∀ x ∈ xs, okB x = true) → okAll xs = true
  | [], _ => rfl
  | x :: xs, h => by
    rw [okAll, h x List.mem_cons_self, okAll_of fun y m => h y (List.mem_cons_of_mem _ m)]
    rfl
theorem sizAll_le {n : Nat} : ∀ {xs : List PyData}, (∀ x ∈ xs, siz x ≤ n) → sizAll xs ≤ (n + 2) * xs.length
  | [], _ => by simp [sizAll]
  | x :: xs, h => by
    have h1 := h x List.mem_cons_self
    have h2 := sizAll_le fun y m => h y (List.mem_cons_of_mem x m)
    rw [sizAll, List.length_cons, Nat.mul_add, Nat.mul_one]
    omega
theorem depthAll_le {n : Nat} : ∀ {xs : List PyData}, (∀ x ∈ xs, x.depth ≤ n) → PyData.depthAll xs ≤ n
  | [], _ => by simp [PyData.depthAll]
  | x :: xs, h => by
    have h1 := h x List.mem_cons_self
    have h2 := depthAll_le fun y m => h y (List.mem_cons_of_mem x m)
    rw [PyData.depthAll]
    omega
theorem textFrom0 (ts : List Str) (acc : Str) : (textFrom 0 acc ts).length ≤ acc.length + piled ts := by
  have h := textFrom_len ts 0 acc
  cases ts with
  | nil => exact Nat.le_add_right _ _
  | cons t r =>
    show (textFrom 1 (acc ++ t) r).length ≤ _
    rw [textFrom_length_pos r 1 (acc ++ t) Nat.one_pos, strLen_append, piled_cons]
    omega
theorem listText_le (ts : List Str) : (listText ts).length ≤ piled ts + 2 := by
  have h := textFrom0 ts "["
  unfold listText
  rw [strLen_append]
  have e1 : (("[" : Str)).length = 1 := rfl
  have e2 : (("]" : Str)).length = 1 := rfl
  omega
theorem dictText_le (ts : List Str) : (dictText ts).length ≤ piled ts + 2 := by
  have e1 : (("{" : Str)).length = 1 := rfl
  have e2 : (("}" : Str)).length = 1 := rfl
  unfold dictText
  rw [strLen_append, strLen_append]
  by_cases h : ts = []
  · subst h
    decide +kernel
  · have := join_length_add ts h
    omega
theorem int_len {i : Int} (h : i.natAbs.log2 < 1920) : (Str.ofString (toString i)).length ≤ 1921 := by
  have e := int_text_length_le (k := 1920) (by decide) h
  rw [PySem.ofString_length]
  omega
mutual
theorem ok_show : ∀ {d : PyData}, okB d = true → d.showable = true ∧ d.shown.length ≤ siz d
  | .none, _ => ⟨rfl, by simp only [PyData.shown, siz]; decide⟩
  | .bool b, _ => ⟨rfl, by simp only [PyData.shown, siz]; cases b <;> decide⟩
  | .int i, h => ⟨by simpa [PyData.showable, okB] using h, by simp only [PyData.shown, siz]; exact int_len (by simpa [okB] using h)⟩
  | .str x, h => ⟨rfl, by
      simp only [PyData.shown, siz]
      rw [okB, List.all_eq_true] at h
      exact StrLaws.reprText_len x fun c m => Nat.lt_trans (of_decide_eq_true (h c m)) (by decide)⟩
  | .list xs, h => by
    obtain ⟨a, b⟩ := ok_showAll (xs := xs) (by simpa [okB] using h)
    refine ⟨by simpa [PyData.showable] using a, ?_⟩
    simp only [PyData.shown, siz]
    exact Nat.le_trans (listText_le _) (by omega)
  | .tuple xs, h => by
    obtain ⟨a, b⟩ := ok_showAll (xs := xs) (by simpa [okB] using h)
    refine ⟨by simpa [PyData.showable] using a, ?_⟩
    simp only [PyData.shown, siz]
    exact Nat.le_trans (fmt_text _) (by omega)
  | .dict kvs, h => by
    obtain ⟨a, b⟩ := ok_showKv (kvs := kvs) (by simpa [okB] using h)
    refine ⟨by simpa [PyData.showable] using a, ?_⟩
    simp only [PyData.shown, siz]
    exact Nat.le_trans (dictText_le _) (by omega)
theorem ok_showAll : ∀ {xs : List PyData}, okAll xs = true → PyData.showableAll xs = true ∧ piled (PyData.shownAll xs) ≤ sizAll xs
  | [], _ => ⟨rfl, by simp [PyData.shownAll, piled_nil]⟩
  | x :: xs, h => by
    rw [okAll, Bool.and_eq_true] at h
    obtain ⟨a, b⟩ := ok_show h.1
    obtain ⟨c, d⟩ := ok_showAll h.2
    refine ⟨by rw [PyData.showableAll, a, c]; rfl, ?_⟩
    rw [PyData.shownAll, piled_cons, sizAll]
    omega
theorem ok_showKv : ∀ {kvs : List (PyData × PyData)}, okKv kvs = true → PyData.showableKv kvs = true ∧ piled (PyData.shownKv kvs) ≤ sizKv kvs
  | [], _ => ⟨rfl, by simp [PyData.shownKv, piled_nil]⟩
  | (k, v) :: r, h => by
    rw [okKv, Bool.and_eq_true, Bool.and_eq_true] at h
    obtain ⟨a, b⟩ := ok_show h.1.1
    obtain ⟨a2, b2⟩ := ok_show h.1.2
    obtain ⟨c, d⟩ := ok_showKv h.2
    refine ⟨by rw [PyData.showableKv, a, a2, c]; rfl, ?_⟩
    rw [PyData.shownKv, piled_cons, sizKv, strLen_append, strLen_append]
    have e1 : ((": " : Str)).length = 2 := rfl
    omega
end
/-- data that repr can tell: at most k deep, of a text of at most n signs -/
structure Okd (k n : Nat) (d : PyData) : Prop where
  ok : okB d = true
  dp : d.depth ≤ k
  sz : siz d ≤ n
theorem Okd.mono {k n k2 n2 : Nat} {d : PyData} (h : Okd k n d) (hk : k ≤ k2 := by decide) (hn : n ≤ n2 := by decide) : Okd k2 n2 d := ⟨h.ok, Nat.le_trans h.dp hk, Nat.le_trans h.sz hn⟩
theorem Okd.tup {k n m N : Nat} {ds : List PyData} (h : ∀ d ∈ ds, Okd k n d) (hl : ds.length ≤ m) (hN : (n + 2) * m + 3 ≤ N := by decide) : Okd (k + 1) N (.tuple ds) := by
  refine ⟨okAll_of fun d hd => (h d hd).ok, ?_, ?_⟩
  · have := depthAll_le fun d hd => (h d hd).dp
    simp only [PyData.depth]
    omega
  · have h1 := sizAll_le fun d hd => (h d hd).sz
    have h2 : (n + 2) * ds.length ≤ (n + 2) * m := Nat.mul_le_mul_left _ hl
    show sizAll ds + 3 ≤ N
    omega
theorem Okd.list {k n m N : Nat} {ds : List PyData} (h : ∀ d ∈ ds, Okd k n d) (hl : ds.length ≤ m) (hN : (n + 2) * m + 3 ≤ N := by decide) : Okd (k + 1) N (.list ds) := by
  have a := Okd.tup h hl hN
  exact ⟨a.ok, a.dp, a.sz⟩
theorem Okd.kids {k n : Nat} {ds : List PyData} (h : Okd (k + 1) n (.tuple ds)) : ∀ d ∈ ds, Okd k n d := by
  have h1 : okAll ds = true := h.ok
  have h2 : PyData.depthAll ds ≤ k := by
    have := h.dp
    simp only [PyData.depth] at this
    omega
  have h3 : sizAll ds ≤ n := by
    have := h.sz
    rw [siz] at this
    omega
  clear h
  induction ds with
  | nil => intro d hd; cases hd
  | cons x xs ih =>
    rw [okAll, Bool.and_eq_true] at h1
    rw [PyData.depthAll] at h2
    rw [sizAll] at h3
    intro d hd
    rcases List.mem_cons.mp hd with rfl | hd
    · exact ⟨h1.1, by omega, by omega⟩
    · exact ih h1.2 (by omega) (by omega) d hd
theorem Okd.shown {k n : Nat} {d : PyData} (h : Okd k n d) (hk : k ≤ 60) (hn : n ≤ sizeLine) : d.showable = true ∧ d.depth ≤ 60 ∧ d.shown.length ≤ sizeLine :=
  let ⟨a, b⟩ := ok_show h.ok
  ⟨a, Nat.le_trans h.dp hk, Nat.le_trans b (Nat.le_trans h.sz hn)⟩
end L2.Hx

/-! What a saying is, twice: as the program looks, and as the law does. -/
namespace L2.Hx
open PySem PySem.Spec PyProof.Rows
def w_WORDS : List Str := ["nil", "result", "fun", "head", "foot", "with", "var", "if", "else", "while", "keep", "new", "free", "any", "cell", "list", "empty", "is", "isnt"]
def w_LOOK_WORDS : List Str := ["is", "isnt"]
def w_PART_WORDS : List Str := ["cell", "list"]
def w_nr : List Str := ["nil", "result"]
def abc : List Nat := ("abcdefghijklmnopqrstuvwxyz" : Str).cps.toList
def letters (z : Str) : Bool := z.cps.toList.all fun c => decide (c ∈ abc)
def lenOk (z : Str) : Bool := decide (1 ≤ (z.length : Int)) && decide ((z.length : Int) ≤ 8)
def nameP (d : PyData) : Bool := match d with
  | .str z => lenOk z && (!decide (z ∈ w_WORDS) && letters z)
  | _ => false
def termP (d : PyData) : Bool := inWs d w_nr || nameP d
def termL (d : PyData) : Bool := match d with
  | .str z => lenOk z && (letters z && (decide (z ∈ w_nr) || !decide (z ∈ w_WORDS)))
  | _ => false
theorem term_eq (d : PyData) : termP d = termL d := by
  cases d with
  | str z =>
    by_cases h : z ∈ w_nr
    · rcases List.mem_cons.mp h with e | h2
      · subst e
        decide +kernel
      · rcases List.mem_cons.mp h2 with e | h3
        · subst e
          decide +kernel
        · cases h3
    · have e1 : decide (z ∈ w_nr) = false := decide_eq_false h
      show (decide (z ∈ w_nr) || (lenOk z && (!decide (z ∈ w_WORDS) && letters z))) = (lenOk z && (letters z && (decide (z ∈ w_nr) || !decide (z ∈ w_WORDS))))
      rw [e1, Bool.false_or, Bool.false_or]
      cases lenOk z <;> cases letters z <;> cases decide (z ∈ w_WORDS) <;> rfl
  | _ => rfl
def rowD (ws : List Str) (d : PyData) : Bool := match d with
  | .tuple [a, b, c] => inWs a ws && (termL b && termL c)
  | _ => false
def rowsD (ws : List Str) (most : Int) (d : PyData) : Bool := match d with
  | .tuple ds => decide ((ds.length : Int) ≤ most) && ds.all (rowD ws)
  | _ => false
def clauseD (d : PyData) : Bool := match d with
  | .tuple [a, b] => rowsD w_LOOK_WORDS 30 a && rowsD w_PART_WORDS 8 b
  | _ => false
/-- from the i-th item on -/
def dueFrom (i : Nat) : List PyData → PyData
  | [] => .none
  | d :: ds => if clauseD d then dueFrom (i + 1) ds else .tuple [.str "clause", .int i]
def dueD (d : PyData) : PyData := match d with
  | .tuple ds => if 1 ≤ ds.length ∧ ds.length ≤ 64 then dueFrom 0 ds else .str "form"
  | _ => .str "form"
theorem dueFrom_ok : ∀ (ds : List PyData) (i : Nat), (∀ d ∈ ds, clauseD d = true) → dueFrom i ds = .none
  | [], _, _ => rfl
  | d :: ds, i, h => by
    rw [dueFrom, if_pos (h d List.mem_cons_self)]
    exact dueFrom_ok ds (i + 1) fun e m => h e (List.mem_cons_of_mem _ m)
theorem dueFrom_okd : ∀ (ds : List PyData) (i : Nat), i + ds.length ≤ 100 → Okd 1 5000 (dueFrom i ds)
  | [], i, _ => ⟨rfl, by simp [dueFrom, PyData.depth], by show 5 ≤ 5000; decide⟩
  | d :: ds, i, h => by
    rw [List.length_cons] at h
    rw [dueFrom]
    split
    · exact dueFrom_okd ds (i + 1) (by omega)
    · have h1 : okB (.int (i : Int)) = true := by
        rw [okB]
        refine decide_eq_true ?_
        have h7 : (i : Int).natAbs < 2 ^ 7 := by omega
        exact Nat.lt_trans (PySem.Flt.log2_lt_of (by decide) h7) (by decide)
      have h2 : okB (.str "clause") = true := by decide +kernel
      refine ⟨by rw [okB, okAll, okAll, okAll, h1, h2]; rfl, by simp [PyData.depth, PyData.depthAll], ?_⟩
      show siz (.str "clause") + 2 + (1921 + 2 + 0) + 3 ≤ 5000
      have : siz (.str "clause") = 62 := by decide +kernel
      omega
theorem due_okd (d : PyData) : Okd 1 5000 (dueD d) := by
  have hf : Okd 1 5000 (.str "form") := ⟨by decide +kernel, by simp [PyData.depth], by decide +kernel⟩
  cases d with
  | tuple ds =>
    show Okd 1 5000 (if 1 ≤ ds.length ∧ ds.length ≤ 64 then dueFrom 0 ds else .str "form")
    split
    · exact dueFrom_okd ds 0 (by omega)
    · exact hf
  | _ => exact hf
/-- the size of an item -/
theorem siz_kid {d : PyData} : ∀ {ds : List PyData}, d ∈ ds → siz d ≤ siz (.tuple ds) := by
  intro ds h
  rw [siz]
  induction ds with
  | nil => cases h
  | cons x xs ih =>
    rw [sizAll]
    rcases List.mem_cons.mp h with rfl | h
    · omega
    · have := ih h
      omega
/-- data that the looks take -/
structure Fit (d : PyData) : Prop where
  ok : okB d = true
  sz : siz d ≤ sizeLine
theorem okAll_mem {d : PyData} : ∀ {ds : List PyData}, okAll ds = true → d ∈ ds → okB d = true
  | x :: xs, h, m => by
    rw [okAll, Bool.and_eq_true] at h
    rcases List.mem_cons.mp m with rfl | m
    · exact h.1
    · exact okAll_mem h.2 m
theorem Fit.kid {d : PyData} {ds : List PyData} (h : Fit (.tuple ds)) (m : d ∈ ds) : Fit d :=
  ⟨okAll_mem (show okAll ds = true from h.ok) m, Nat.le_trans (siz_kid m) h.sz⟩
theorem siz_len : ∀ ds : List PyData, ds.length ≤ siz (.tuple ds) := by
  intro ds
  rw [siz]
  induction ds with
  | nil => simp
  | cons x xs ih =>
    rw [sizAll, List.length_cons]
    omega
theorem siz_str (z : Str) : z.length ≤ siz (.str z) := by
  rw [siz]
  omega
end L2.Hx

/-! Expressions that lay data: what they come to, by its size. -/
namespace L2.Hx
open PySem PySem.Spec PyProof.Rows

/-! ### t != () -/
def rNeNil (K : PySem.W.Frag) : R2 := fun x y H Q => ∃ a b xs, x = .ref a ∧ y = .ref b ∧ SqT K H a xs ∧ SqT K H b [] ∧ Q (.bl (!xs.isEmpty)) H
theorem op_neNil {X : Cx} (hu : X.A.units + 64 < cLine) : OpR X (compareOp .NotEq) (rNeNil X.K) := by
  intro pins s σ H x y v u Q I rx ry h
  obtain ⟨a, b, xs, rfl, rfl, ha, hb, q⟩ := h
  cases rx
  cases ry
  obtain ⟨its, r1, p1, _⟩ := I.tuple ha
  obtain ⟨its2, r2, p2, _⟩ := I.tuple hb
  cases r2
  refine SeqAt.RcNeAt.tuples (e := fun _ => true) p1 p2 (by omega) (fun j h1 h2 => absurd h2 (by simp)) _ _ _ _ ⟨.bl _, H, I, rfl, ?_⟩
  have hl := r1.length
  have e : (!((List.range (min its.toArray.size ([] : List Value).toArray.size)).all (fun _ => true) && its.toArray.size == ([] : List Value).toArray.size)) = !xs.isEmpty := by
    cases xs with
    | nil =>
      cases r1
      rfl
    | cons x xs =>
      cases r1
      rfl
  rw [e]
  exact q

/-- all m of at most these depths and sizes -/
def All (k n m : Nat) (ds : List PyData) : Prop := ds.length = m ∧ ∀ d ∈ ds, Okd k n d
/-- a tuple of at most m such -/
def Tp (k n m : Nat) (d : PyData) : Prop := ∃ ds, d = .tuple ds ∧ ds.length ≤ m ∧ ∀ x ∈ ds, Okd k n x
/-- a list of at most m such, not empty -/
def Ls (k n m : Nat) (d : PyData) : Prop := ∃ ds, d = .list ds ∧ 0 < ds.length ∧ ds.length ≤ m ∧ ∀ x ∈ ds, Okd k n x
theorem Tp.okd {k n m N : Nat} {d : PyData} (h : Tp k n m d) (hN : (n + 2) * m + 3 ≤ N := by decide) : Okd (k + 1) N d := by
  obtain ⟨ds, rfl, hl, h⟩ := h
  exact Okd.tup h hl hN
theorem Ls.okd {k n m N : Nat} {d : PyData} (h : Ls k n m d) (hN : (n + 2) * m + 3 ≤ N := by decide) : Okd (k + 1) N d := by
  obtain ⟨ds, rfl, _, hl, h⟩ := h
  exact Okd.list h hl hN
theorem Tp.mono {k n m k2 n2 m2 : Nat} {d : PyData} (h : Tp k n m d) (hk : k ≤ k2 := by decide) (hn : n ≤ n2 := by decide) (hm : m ≤ m2 := by decide) : Tp k2 n2 m2 d := by
  obtain ⟨ds, rfl, hl, h⟩ := h
  exact ⟨ds, rfl, Nat.le_trans hl hm, fun x m => (h x m).mono hk hn⟩
theorem Okd.tp {k n : Nat} {ds : List PyData} (h : Okd (k + 1) n (.tuple ds)) {m : Nat} (hl : ds.length ≤ m) : Tp k n m (.tuple ds) := ⟨ds, rfl, hl, h.kids⟩

section
variable (K : PySem.W.Frag) (p l : Addr) (σ : St) (G : Hp)
/-- whatever the heap, what comes is such data; the deck may be drawn from -/
def TD (t : TE) (φ : PyData → Prop) : Prop := ∀ (G1 H : Hp) (Q : VK), Wd p l G1 H → Same G G1 → (∀ v d G2 H2, Ext p l G1 H G2 H2 → Da K G2 v d → φ d → Q v H2) → t σ H Q
def TDs (t : TA) (Φ : List PyData → Prop) : Prop := ∀ (G1 H : Hp) (Q : List V → Hp → Prop), Wd p l G1 H → Same G G1 → (∀ vs ds G2 H2, Ext p l G1 H G2 H2 → DaAll K G2 vs ds → Φ ds → Q vs H2) → t σ H Q
end
/-- a slice's end -/
def TPt (σ : St) (t : TO) : Prop := ∀ (H : Hp) (Q : Option Int → Hp → Prop), (∀ o, Q o H) → t σ H Q
section
variable {K : PySem.W.Frag} {p l : Addr} {σ : St} {G : Hp} {t ta tb : TE} {tr : TA} {φ ψ : PyData → Prop} {Φ : List PyData → Prop} {k n m : Nat}
theorem TD.imp (h : TD K p l σ G t φ) (hi : ∀ d, φ d → ψ d) : TD K p l σ G t ψ := fun G1 H Q W s k => h G1 H Q W s fun v d G2 H2 e da f => k v d G2 H2 e da (hi d f)
theorem TD.run {H : Hp} {Q : VK} (h : TD K p l σ G t φ) (W : Wd p l G H) (k : ∀ v d G2 H2, Ext p l G H G2 H2 → Da K G2 v d → φ d → Q v H2) : t σ H Q := h G H Q W (Same.refl G) k
theorem TD.asg {H : Hp} {D : Ends} {i : Nat} (h : TD K p l σ G t φ) (W : Wd p l G H) (k : ∀ v d G2 H2, Ext p l G H G2 H2 → Da K G2 v d → φ d → D.nx (σ.set i (some v)) H2) : tAsg t (gName i) D σ H := h G H _ W (Same.refl G) k
theorem TD.asgG {H : Hp} {D : Ends} {g : TG} (h : TD K p l σ G t φ) (W : Wd p l G H) (k : ∀ v d G2 H2, Ext p l G H G2 H2 → Da K G2 v d → φ d → g v σ H2 D.nx) : tAsg t g D σ H := h G H _ W (Same.refl G) k
theorem TD.ret {H : Hp} {D : Ends} (h : TD K p l σ G t φ) (W : Wd p l G H) (k : ∀ v d G2 H2, Ext p l G H G2 H2 → Da K G2 v d → φ d → D.rt v H2) : tRet t D σ H := h G H _ W (Same.refl G) k
theorem TD.flat {v : V} {d : PyData} (hd : ∀ G, Da K G v d) (hf : φ d) : TD K p l σ G (tC v) φ := fun G1 H Q W _ k => k _ _ _ _ (Ext.refl W) (hd _) hf
theorem td_str {x : Str} (h : okB (.str x) = true := by decide +kernel) (hn : siz (.str x) ≤ n := by decide +kernel) : TD K p l σ G (tC (.str x)) (Okd k n) := .flat (fun _ => .str x) ⟨h, Nat.zero_le _, hn⟩
theorem td_int {i : Int} (h : i.natAbs.log2 < 1920 := by decide) (hn : 1921 ≤ n := by decide) : TD K p l σ G (tC (.int i)) (Okd k n) := .flat (fun _ => .int i) ⟨decide_eq_true h, Nat.zero_le _, hn⟩
theorem td_non (hn : 5 ≤ n := by decide) : TD K p l σ G (tC .non) (Okd k n) := .flat (fun _ => .non) ⟨rfl, Nat.zero_le _, hn⟩
theorem td_bl {b : Bool} (hn : 5 ≤ n := by decide) : TD K p l σ G (tC (.bl b)) (Okd k n) := .flat (fun _ => .bl b) ⟨rfl, Nat.zero_le _, hn⟩
theorem td_var {i : Nat} {v : V} {d : PyData} (hi : σ[i]? = some (some v)) (hd : Da K G v d) (hf : φ d) : TD K p l σ G (tVar i) φ := fun G1 H Q W s k => ⟨v, hi, k _ _ _ _ (Ext.refl W) (hd.mono s) hf⟩
theorem tds_nil : TDs K p l σ G tNil (All k n 0) := fun G1 H Q W _ k => k _ _ _ _ (Ext.refl W) .nil ⟨rfl, fun d h => absurd h List.not_mem_nil⟩
theorem tds_cons (h : TD K p l σ G t (Okd k n)) (hr : TDs K p l σ G tr (All k n m)) : TDs K p l σ G (tCons t tr) (All k n (m + 1)) := fun G1 H Q W s k =>
  h G1 H _ W s fun v d G2 H2 e da f => hr G2 H2 _ e.w (s.trans e.sub) fun vs ds G3 H3 e3 das f3 => k _ _ _ _ (e.trans W e3) (.cons (da.mono e3.sub) das)
    ⟨by rw [List.length_cons, f3.1], fun x mx => by
      rcases List.mem_cons.mp mx with rfl | mx
      · exact f
      · exact f3.2 x mx⟩
/-- for arguments of any kinds -/
theorem tds_consP (h : TD K p l σ G t φ) (hr : TDs K p l σ G tr Φ) : TDs K p l σ G (tCons t tr) (fun ds => ∃ d r, ds = d :: r ∧ φ d ∧ Φ r) := fun G1 H Q W s k =>
  h G1 H _ W s fun v d G2 H2 e da f => hr G2 H2 _ e.w (s.trans e.sub) fun vs ds G3 H3 e3 das f3 => k _ _ _ _ (e.trans W e3) (.cons (da.mono e3.sub) das) ⟨d, ds, rfl, f, f3⟩
theorem tds_nilP : TDs K p l σ G tNil (fun ds => ds = []) := fun G1 H Q W _ k => k _ _ _ _ (Ext.refl W) .nil rfl
theorem td_tupP (h : TDs K p l σ G tr Φ) (hz : ∀ ds, Φ ds → ds.length ≤ sizeLine) : TD K p l σ G (tTup tr) (fun d => ∃ ds, d = .tuple ds ∧ Φ ds) := fun G1 H Q W s k =>
  h G1 H _ W s fun vs ds G2 H2 e da f => ⟨by rw [da.length]; exact hz ds f, fun a ha => k _ _ _ _ (e.trans W (e.w.put ha)) (.tup (SqT.of upd_same) (da.mono (e.w.put (o := .tup vs) ha).sub)) ⟨ds, rfl, f⟩⟩
theorem td_tup (h : TDs K p l σ G tr (All k n m)) (hz : m ≤ sizeLine := by decide) : TD K p l σ G (tTup tr) (Tp k n m) :=
  (td_tupP h fun ds f => by rw [f.1]; exact hz).imp fun d ⟨ds, e, f⟩ => ⟨ds, e, Nat.le_of_eq f.1, f.2⟩
theorem td_lst (h : TDs K p l σ G tr (All k n (m + 1))) (hz : m + 1 ≤ sizeLine := by decide) : TD K p l σ G (tLst tr) (Ls k n (m + 1)) := fun G1 H Q W s k =>
  h G1 H _ W s fun vs ds G2 H2 e da f => ⟨by rw [da.length, f.1]; exact hz, fun a ha => k _ _ _ _ (e.trans W (e.w.put ha)) (.lst upd_same (da.mono (e.w.put (o := .lst vs) ha).sub)) ⟨ds, rfl, by rw [f.1]; omega, Nat.le_of_eq f.1, f.2⟩⟩
theorem td_lst0 (hn : 3 ≤ n := by decide) : TD K p l σ G (tLst tNil) (Okd (k + 1) n) := fun G1 H Q W s k => ⟨Nat.zero_le _, fun a ha => k _ _ _ _ (W.put ha) (.lst upd_same .nil) ⟨rfl, by simp [PyData.depth, PyData.depthAll], hn⟩⟩
theorem td_tup0 : TD K p l σ G (tTup tNil) (Tp k n 0) := fun G1 H Q W s k => ⟨Nat.zero_le _, fun a ha => k _ _ _ _ (W.put ha) (.tup (SqT.of upd_same) .nil) ⟨[], rfl, Nat.le_refl _, fun x h => absurd h List.not_mem_nil⟩⟩
theorem td_dict0 (hn : 2 ≤ n := by decide) : TD K p l σ G tDNewK (Okd (k + 1) n) := fun G1 H Q W s k => fun a ha => k _ _ _ _ (W.put ha) (Da.dct (kvs := []) upd_same .nil) ⟨rfl, by simp [PyData.depth, PyData.depthKv], hn⟩
theorem Da.tpI {G : Hp} {v : V} {d : PyData} (h : Da K G v d) (f : Tp k n m d) : ∃ a xs ds, v = .ref a ∧ d = .tuple ds ∧ SqT K G a xs ∧ DaAll K G xs ds ∧ ds.length ≤ m ∧ ∀ x ∈ ds, Okd k n x := by
  obtain ⟨ds, rfl, h1, h2⟩ := f
  cases h with
  | tup a b => exact ⟨_, _, ds, rfl, rfl, a, b, h1, h2⟩
theorem Da.lsI {G : Hp} {v : V} {d : PyData} (h : Da K G v d) (f : Ls k n m d) : ∃ a xs ds, v = .ref a ∧ d = .list ds ∧ G a = some (.lst xs) ∧ DaAll K G xs ds ∧ 0 < ds.length ∧ ds.length ≤ m ∧ ∀ x ∈ ds, Okd k n x := by
  obtain ⟨ds, rfl, h0, h1, h2⟩ := f
  cases h with
  | lst a b => exact ⟨_, _, ds, rfl, rfl, a, b, h0, h1, h2⟩
/-- t + u, tuples -/
theorem td_catA {m2 : Nat} (ha : TD K p l σ G ta (Tp k n m)) (hb : TD K p l σ G tb (Tp k n m2)) (hz : m + m2 ≤ sizeLine := by decide) : TD K p l σ G (tOp (rCatA K) ta tb) (Tp k n (m + m2)) := fun G1 H Q W s k =>
  ha G1 H _ W s fun v d G2 H2 e da f => hb G2 H2 _ e.w (s.trans e.sub) fun u d2 G3 H3 e3 da3 f3 => by
    obtain ⟨a, xs, ds, rfl, rfl, t1, a1, l1, o1⟩ := da.tpI f
    obtain ⟨b, ys, es, rfl, rfl, t2, a2, l2, o2⟩ := da3.tpI f3
    have E := e.trans W e3
    refine ⟨a, b, xs, ys, rfl, rfl, sameT (e3.sub.trans e3.w.same) t1, sameT e3.w.same t2, by rw [a1.length, a2.length]; omega, fun hx => ?_, fun hx hy => ?_, fun hx hy c hc => ?_⟩
    · exact k _ _ _ _ E da3 ⟨es, rfl, by omega, o2⟩
    · exact k _ _ _ _ E (da.mono e3.sub) ⟨ds, rfl, by omega, o1⟩
    · have e4 := e3.w.put (o := .tup (xs ++ ys)) hc
      refine k _ _ _ _ (E.trans W e4) (.tup (SqT.of upd_same) ((a1.mono (e3.sub.trans e4.sub)).append (a2.mono e4.sub))) ⟨ds ++ es, rfl, by rw [List.length_append]; omega, fun x mx => ?_⟩
      rcases List.mem_append.mp mx with mx | mx
      · exact o1 x mx
      · exact o2 x mx
/-- xs + ys, lists -/
theorem td_cat {m2 : Nat} (ha : TD K p l σ G ta (Ls k n m)) (hb : TD K p l σ G tb (Ls k n m2)) (hz : m + m2 ≤ sizeLine := by decide) : TD K p l σ G (tOp rCat ta tb) (Ls k n (m + m2)) := fun G1 H Q W s k =>
  ha G1 H _ W s fun v d G2 H2 e da f => hb G2 H2 _ e.w (s.trans e.sub) fun u d2 G3 H3 e3 da3 f3 => by
    obtain ⟨a, xs, ds, rfl, rfl, t1, a1, z1, l1, o1⟩ := da.lsI f
    obtain ⟨b, ys, es, rfl, rfl, t2, a2, z2, l2, o2⟩ := da3.lsI f3
    have E := e.trans W e3
    refine ⟨a, b, xs, ys, rfl, rfl, (e3.sub.trans e3.w.same) _ _ t1, e3.w.same _ _ t2, by rw [a1.length, a2.length]; omega, fun c hc => ?_⟩
    have e4 := e3.w.put (o := .lst (xs ++ ys)) hc
    refine k _ _ _ _ (E.trans W e4) (.lst upd_same ((a1.mono (e3.sub.trans e4.sub)).append (a2.mono e4.sub))) ⟨ds ++ es, rfl, by rw [List.length_append]; omega, by rw [List.length_append]; omega, fun x mx => ?_⟩
    rcases List.mem_append.mp mx with mx | mx
    · exact o1 x mx
    · exact o2 x mx
/-- t[lo:hi] -/
theorem td_sl {tl th : TO} (ha : TD K p l σ G ta (Tp k n m)) (hl : TPt σ tl) (hh : TPt σ th) : TD K p l σ G (tSl (rSlA K) ta tl th) (Tp k n m) := fun G1 H Q W s k =>
  ha G1 H _ W s fun v d G2 H2 e da f => hl H2 _ fun lo => hh H2 _ fun hi => by
    obtain ⟨a, xs, ds, rfl, rfl, t1, a1, l1, o1⟩ := da.tpI f
    refine ⟨a, xs, rfl, sameT e.w.same t1, fun _ => k _ _ _ _ e da ⟨ds, rfl, l1, o1⟩, fun _ c hc => ?_⟩
    have e4 := e.w.put (o := .tup (cutV xs lo hi)) hc
    refine k _ _ _ _ (e.trans W e4) (.tup (SqT.of upd_same) ((((a1.drop _).take _).mono e4.sub))) ⟨_, rfl, ?_, fun x mx => o1 x (List.mem_of_mem_drop (List.mem_of_mem_take mx))⟩
    rw [List.length_take, List.length_drop]
    omega
theorem tp_none : TPt σ tNoPart := fun H Q h => h none
theorem tp_int {i : Int} : TPt σ (tPart (tC (.int i))) := fun H Q h => ⟨i, rfl, h _⟩
theorem tp_var {i : Nat} {z : Int} (hi : σ[i]? = some (some (.int z))) : TPt σ (tPart (tVar i)) := fun H Q h => ⟨_, hi, _, rfl, h _⟩
theorem tp_add {i : Nat} {z c : Int} (hi : σ[i]? = some (some (.int z))) : TPt σ (tPart (tOp (rI0 fun i j => .int (i + j)) (tVar i) (tC (.int c)))) := fun H Q h => ⟨_, hi, _, _, rfl, rfl, _, rfl, h _⟩
/-- (x,) * c -/
theorem td_rep {c : Int} {N : Nat} (ha : TD K p l σ G ta (fun d => ∃ x, d = .tuple [x] ∧ Okd k n x)) (h2 : 2 ≤ c := by decide) (h3 : c ≤ 1000 := by decide) (hN : c.toNat ≤ N := by decide) : TD K p l σ G (tOp (rRepT K) ta (tC (.int c))) (Tp k n N) := fun G1 H Q W s k =>
  ha G1 H _ W s fun v d G2 H2 e da f => by
    obtain ⟨x, rfl, o1⟩ := f
    cases da with
    | @tup a xs _ t1 a1 =>
      cases a1 with
      | cons b1 b2 =>
        cases b2
        rename_i y
        refine ⟨a, c, [y], rfl, rfl, sameT e.w.same t1, by simp, h2, h3, by simp, fun q hq => ?_⟩
        have e4 := e.w.put (o := .tup (List.replicate c.toNat [y]).flatten) hq
        refine k _ _ _ _ (e.trans W e4) (.tup (SqT.of upd_same) ((DaAll.flat (.cons b1 .nil) c.toNat).mono e4.sub)) ⟨_, rfl, ?_, fun z mz => ?_⟩
        · rw [PyProof.Rows.lm_len_rep_flat]
          simpa using hN
        · rw [List.mem_flatten] at mz
          obtain ⟨r, hr, mz⟩ := mz
          rw [(List.mem_replicate.mp hr).2] at mz
          rw [List.mem_singleton.mp mz]
          exact o1
/-- list(t), t a tuple -/
theorem td_list_of (ha : TD K p l σ G ta (Tp k n m)) {N : Nat} (hN : (n + 2) * m + 3 ≤ N := by decide) :
    TD K p l σ G (tCB (fun xs H Q => ∃ p ys, xs = [.ref p] ∧ (SqL K H p ys ∨ SqT K H p ys) ∧ ∀ l, H l = none → Q (.ref l) (upd H l (.lst ys))) (tCons ta tNil)) (Okd (k + 1) N) := fun G1 H Q W s k =>
  ha G1 H _ W s fun v d G2 H2 e da f => by
    obtain ⟨a, xs, ds, rfl, rfl, t1, a1, l1, o1⟩ := da.tpI f
    refine ⟨a, xs, rfl, .inr (sameT e.w.same t1), fun q hq => ?_⟩
    have e4 := e.w.put (o := .lst xs) hq
    exact k _ _ _ _ (e.trans W e4) (.lst upd_same (a1.mono e4.sub)) (Okd.list o1 l1 hN)
/-- tuple(xs), xs a list -/
theorem td_tuple_of {N : Nat} (ha : TD K p l σ G ta (fun d => ∃ ds, d = .list ds ∧ ds.length ≤ m ∧ ∀ x ∈ ds, Okd k n x)) :
    TD K p l σ G (tCB (fun xs H Q => ∃ p ys, xs = [.ref p] ∧ ((SqL K H p ys ∧ ∀ l, H l = none → Q (.ref l) (upd H l (.tup ys))) ∨ (SqT K H p ys ∧ Q (.ref p) H))) (tCons ta tNil)) (Tp k n m) := fun G1 H Q W s k =>
  ha G1 H _ W s fun v d G2 H2 e da f => by
    obtain ⟨ds, rfl, l1, o1⟩ := f
    cases da with
    | @lst a xs _ t1 a1 =>
      refine ⟨a, xs, rfl, .inl ⟨SqL.of (e.w.same _ _ t1), fun q hq => ?_⟩⟩
      have e4 := e.w.put (o := .tup xs) hq
      exact k _ _ _ _ (e.trans W e4) (.tup (SqT.of upd_same) (a1.mono e4.sub)) ⟨ds, rfl, l1, o1⟩
end
/-! ### comprehensions over a range -/
section
variable (K : PySem.W.Frag) (p l : Addr) (σ : St) (G : Hp)
/-- a range of N turns, N as told; the deck may be drawn from -/
def TW (wi : TI) (ν : Nat → Prop) : Prop := ∀ (G1 H : Hp) (R : It → Hp → Prop), Wd p l G1 H → Same G G1 → (∀ N G2 H2, ν N → Ext p l G1 H G2 H2 → R (Itr 0 N) H2) → wi σ H R
end
/-- a list whose length and items are as told -/
def LsN (ν : Nat → Prop) (φ : PyData → Prop) (d : PyData) : Prop := ∃ ds, d = .list ds ∧ ν ds.length ∧ ∀ x ∈ ds, φ x
section
variable {K : PySem.W.Frag} {p l : Addr} {σ : St} {G : Hp}
theorem set_none {j : Nat} {v : Option V} (σ : St) : ((σ.set j none).set j v).set j none = σ.set j none := by
  rw [List.set_set, List.set_set]
theorem tw_var {i : Nat} {z : Int} (hi : σ[i]? = some (some (.int z))) (h0 : 0 ≤ z) (h1 : z < 1000000) : TW p l σ G (iRng1 (tCons (tVar i) tNil)) (fun N => (N : Int) = z) := fun G1 H R W s k =>
  ⟨_, hi, z, rfl, by omega, by omega, k _ _ _ (by omega) (Ext.refl W)⟩
theorem tw_int {z : Int} (h0 : 0 ≤ z) (h1 : z < 1000000) : TW p l σ G (iRng1 (tCons (tC (.int z)) tNil)) (fun N => (N : Int) = z) := fun G1 H R W s k =>
  ⟨z, rfl, by omega, by omega, k _ _ _ (by omega) (Ext.refl W)⟩
theorem td_lc {wi : TI} {te : TE} {j M : Nat} {ν : Nat → Prop} {φ : PyData → Prop} (hw : TW p l σ G wi ν) (hM : ∀ N, ν N → N ≤ M) (hM2 : M < sizeLine) (he : ∀ i : Nat, TD K p l ((σ.set j none).set j (some (.int (0 + (i : Int))))) G te φ) :
    TD K p l σ G (tLc wi (gName j) tYes te [j]) (LsN ν φ) := fun G1 H Q W s k =>
  hw G1 H _ W s fun N G2 H2 hN e => fun D hD => by
    have nDp := e.w.np hD
    have nDl := e.w.nl hD
    have E1 := e.w.tmp (o := .lst []) hD
    refine lc_range (lo := 0) (n := N) (fun i H3 => ∃ G3 xs ds, Wd p l G3 H3 ∧ Same G2 G3 ∧ G3 D = none ∧ H3 D = some (.lst xs) ∧ DaAll K G3 xs ds ∧ ds.length = i ∧ (∀ x ∈ ds, φ x) ∧
        (∀ b o, b ≠ p → b ≠ l → b ≠ D → H2 b = some o → H3 b = some o) ∧ (∀ b o, H2 b = some o → G2 b = none → G3 b = none))
      ⟨G2, [], [], E1.w, Same.refl _, e.w.same.free hD, upd_same, .nil, rfl, fun x m => absurd m List.not_mem_nil, fun b o n1 n2 n3 q => by rw [upd_ne n3]; exact q, fun b o _ g => g⟩ ?_ ?_
    · rintro i H3 hi ⟨G3, xs, ds, w3, s3, gD, hD3, da3, l3, f3, k3, n3⟩
      refine ⟨set_none σ, ?_⟩
      show te _ _ _
      refine he i G3 H3 _ w3 ((s.trans e.sub).trans s3) fun v d G4 H4 e4 da4 f4 => ?_
      have hD4 : H4 D = some (.lst xs) := e4.keep _ _ nDp nDl hD3
      have gD4 : G4 D = none := e4.new _ _ hD3 gD
      refine ⟨xs, hD4, by rw [da3.length, l3]; exact Nat.lt_of_lt_of_le hi (Nat.le_trans (hM N hN) (Nat.le_of_lt hM2)), G4, xs ++ [v], ds ++ [d], e4.w.own nDp nDl gD4, s3.trans e4.sub, gD4, upd_same, (da3.mono e4.sub).append (.cons da4 .nil),
        by rw [List.length_append, l3]; rfl, fun x m => ?_, fun b o n1 n2 n4 q => ?_, fun b o q g => ?_⟩
      · rcases List.mem_append.mp m with m | m
        · exact f3 x m
        · rw [List.mem_singleton.mp m]
          exact f4
      · rw [upd_ne n4]
        exact e4.keep _ _ n1 n2 (k3 b o n1 n2 n4 q)
      · have g3 := n3 b o q g
        by_cases b1 : b = p
        · subst b1
          exact e4.w.gp
        · by_cases b2 : b = l
          · subst b2
            exact e4.w.gl
          · exact e4.new b o (k3 b o b1 b2 (ne_of_none q hD) q) g3
    · rintro H3 ⟨G3, xs, ds, w3, s3, gD, hD3, da3, l3, f3, k3, n3⟩
      obtain ⟨w4, s4⟩ := w3.hold nDp nDl gD hD3
      have E2 : Ext p l G2 H2 (upd G3 D (.lst xs)) H3 := ⟨w4, s3.trans s4, fun b o n1 n2 q => k3 b o n1 n2 (ne_of_none q hD) q, fun b o q g => by
        rw [upd_ne (ne_of_none q hD)]
        exact n3 b o q g⟩
      exact k _ _ _ _ (e.trans W E2) (.lst upd_same (da3.mono s4)) ⟨ds, rfl, by rw [l3]; exact hN, f3⟩
/-- tuple(xs), xs a list as told -/
theorem td_tupleN {ta : TE} {ν : Nat → Prop} {φ : PyData → Prop} (ha : TD K p l σ G ta (LsN ν φ)) :
    TD K p l σ G (tCB (fun xs H Q => ∃ p ys, xs = [.ref p] ∧ ((SqL K H p ys ∧ ∀ l, H l = none → Q (.ref l) (upd H l (.tup ys))) ∨ (SqT K H p ys ∧ Q (.ref p) H))) (tCons ta tNil)) (fun d => ∃ ds, d = .tuple ds ∧ ν ds.length ∧ ∀ x ∈ ds, φ x) := fun G1 H Q W s k =>
  ha G1 H _ W s fun v d G2 H2 e da f => by
    obtain ⟨ds, rfl, l1, o1⟩ := f
    cases da with
    | @lst a xs _ t1 a1 =>
      refine ⟨a, xs, rfl, .inl ⟨SqL.of (e.w.same _ _ t1), fun q hq => ?_⟩⟩
      have e4 := e.w.put (o := .tup xs) hq
      exact k _ _ _ _ (e.trans W e4) (.tup (SqT.of upd_same) (a1.mono e4.sub)) ⟨ds, rfl, l1, o1⟩
theorem td_tupO {tr : TA} {k n m k2 N : Nat} (h : TDs K p l σ G tr (All k n m)) (hN : (n + 2) * m + 3 ≤ N := by decide) (hk : k + 1 ≤ k2 := by decide) (hz : m ≤ sizeLine := by decide) : TD K p l σ G (tTup tr) (Okd k2 N) :=
  (td_tup h hz).imp fun d f => (f.okd hN).mono hk (Nat.le_refl _)
theorem td_tup0O {k n : Nat} (hk : 1 ≤ k := by decide) (hn : 3 ≤ n := by decide) : TD K p l σ G (tTup tNil) (Okd k n) := td_tup0.imp fun d (f : Tp 0 0 0 d) => (f.okd (N := 3)).mono hk hn
theorem td_tpO {t : TE} {k n m k2 N : Nat} (h : TD K p l σ G t (Tp k n m)) (hN : (n + 2) * m + 3 ≤ N := by decide) (hk : k + 1 ≤ k2 := by decide) : TD K p l σ G t (Okd k2 N) := h.imp fun d f => (f.okd hN).mono hk (Nat.le_refl _)
end
end L2.Hx

/-! list(zip(xs, ys)), two lists of one length. -/
namespace L2.Zx
open PySem PySem.Spec PyProof.Rows
abbrev ZipF (h : Heap) (z TI TO a : Addr) (f : Bool) : Prop :=
  h.get? z = some { cls := .type "zip", dict := none, data := .fields #[rawInt a, .bool f, .bool false, .ref TI, .ref TO], slots := #[] }
section
variable {prog : Program} {w : World} {A : Around} {E : Value → Shared → Prop} {s : Shared}
theorem owned_out {z TI TO a : Addr} {f : Bool} {oa : Obj} {Q : Bool → Shared → Prop} (hz : ZipF s.heap z TI TO a f) (ha : s.heap.get? a = some oa)
    (hQ : ∀ h₃, ZipF h₃ z TI TO a true → Heap.SameBut z s.heap h₃ → Q false { s with heap := h₃ }) : wpAny (model prog w) A (Builtin.SmallTypes.ownedTupleIsFree (.ref z)) Q E s := by
  unfold Builtin.SmallTypes.ownedTupleIsFree
  refine wpAny_bind (wpAny_field hz rfl (x := rawInt a) rfl ?_)
  show wpAny _ _ (loadIfAlive ((a : Int).toNat) >>= _) _ _ _
  rw [Int.toNat_natCast]
  refine wpAny_bind (PySem.W.kdx_alive ha ?_)
  simp only [Option.isNone_some, Bool.false_eq_true, if_false]
  refine wpAny_bind (wpAny_field hz rfl (x := .bool f) rfl ?_)
  cases f with
  | true =>
    rw [if_neg (show ¬ ((Value.bool true != Value.bool true) = true) from Bool.false_ne_true)]
    exact wpAny_pure (hQ s.heap hz (Heap.SameBut.refl _ _))
  | false =>
    rw [if_pos (show (Value.bool false != Value.bool true) = true from rfl)]
    refine wpAny_bind (wpAny_setField_rec hz (by simp) fun h₃ hz₃ hs₃ => ?_)
    exact wpAny_pure (hQ h₃ hz₃ hs₃)
theorem next_out {z TI TO i1 i2 l1 l2 a : Addr} {f : Bool} {oa : Obj} {k : Nat} {xs ys : Array Value} {x y : Value} {Q : Option Value → Shared → Prop} (D : ZipApart z TI TO i1 i2 l1 l2)
    (hz : ZipF s.heap z TI TO a f) (ha : s.heap.get? a = some oa) (hTI : IsPair s.heap TI (.ref i1) (.ref i2))
    (h1 : s.heap.IsListIter i1 l1 k) (h2 : s.heap.IsListIter i2 l2 k) (hl1 : s.heap.IsList l1 xs) (hl2 : s.heap.IsList l2 ys) (hx : xs[k]? = some x) (hy : ys[k]? = some y)
    (hQ : ∀ h', ZipF h' z TI TO a true → h'.IsListIter i1 l1 (k + 1) → h'.IsListIter i2 l2 (k + 1) → IsPair h' s.heap.objs.size x y → h'.objs.size = s.heap.objs.size + 1 →
      (∀ c o, c ≠ z → c ≠ i1 → c ≠ i2 → s.heap.get? c = some o → h'.get? c = some o) → Q (some (.ref s.heap.objs.size)) { s with heap := h' }) :
    wpAny (model prog w) A (pyNext (.ref z)) Q E s := by
  have hT : s.TypeIs (.ref z) "zip" := ⟨_, hz, rfl⟩
  unfold pyNext
  refine wpAny_bind (wpAny_attempt (wpAny_callSpecial?_slot (name := Str.ofString "__next__") hT F.slot_zip_next
    (wpAny_call_entry F.slot_zip_next hT F.entry_zip_next ?_ (F.args_zip_next_1 _))))
  show wpAny _ _ (field (.ref z) 2 >>= _) _ _ _
  refine wpAny_bind (wpAny_field hz rfl (x := .bool false) rfl ?_)
  show wpAny _ _ (field (.ref z) 3 >>= _) _ _ _
  refine wpAny_bind (wpAny_field hz rfl (x := .ref TI) rfl ?_)
  refine wpAny_bind (wpAny_seqItems hTI rfl ?_)
  show wpAny _ _ (Builtin.SmallTypes.ownedTupleIsFree (.ref z) >>= _) _ _ _
  refine wpAny_bind (owned_out hz ha fun h₃ hz₃ hs₃ => ?_)
  simp only [Bool.false_eq_true, if_false]
  rw [← Array.forIn_toList]
  simp only [List.forIn_cons, List.forIn_nil]
  refine wpAny_bind ?_
  refine wpAny_bind ?_
  refine wpAny_bind (wpAny_holding ?_)
  show wpAny _ _ (Builtin.SmallTypes.nextOf (.ref i1) >>= _) _ _ _
  refine wpAny_bind (wpAny_nextOf_list_item (h1.extBut hs₃.extBut D.i1z) (hl1.extBut hs₃.extBut D.l1z) hx fun h₄ h1₄ hs₄ => wpAny_pure ?_)
  refine wpAny_pure ?_
  dsimp only
  refine wpAny_bind ?_
  refine wpAny_bind (wpAny_holding ?_)
  show wpAny _ _ (Builtin.SmallTypes.nextOf (.ref i2) >>= _) _ _ _
  refine wpAny_bind (wpAny_nextOf_list_item ((h2.extBut hs₃.extBut D.i2z).extBut hs₄.extBut D.i12.symm) ((hl2.extBut hs₃.extBut D.l2z).extBut hs₄.extBut D.l2i1) hy fun h₅ h2₅ hs₅ => wpAny_pure ?_)
  refine wpAny_pure ?_
  dsimp only
  refine wpAny_pure ?_
  dsimp only
  refine wpAny_bind (wpAny_newTuple (hsz := by show 2 ≤ sizeLine; decide) ?_)
  have up : ∀ c o, c ≠ z → c ≠ i1 → c ≠ i2 → s.heap.get? c = some o → h₅.get? c = some o := fun c o c1 c2 c3 e => hs₅.extBut _ _ c3 (hs₄.extBut _ _ c2 (hs₃.extBut _ _ c1 e))
  have hsz : h₅.objs.size = s.heap.objs.size := by rw [hs₅.1, hs₄.1, hs₃.1]
  refine wpAny_pure ⟨_, rfl, wpAny_pure ?_⟩
  show Q (some (.ref h₅.objs.size)) _
  have hz₅ : ZipF h₅ z TI TO a true := hs₅.extBut _ _ D.i2z.symm (hs₄.extBut _ _ D.i1z.symm hz₃)
  have h1₅ : h₅.IsListIter i1 l1 (k + 1) := h1₄.extBut hs₅.extBut D.i12
  have hT₆ : IsPair (h₅.push { cls := .type "tuple", data := .seq #[x, y] }) h₅.objs.size x y := Heap.get?_push_size _ rfl
  rw [hsz] at hT₆ ⊢
  refine hQ _ (Heap.get?_push_of_some _ hz₅) (h1₅.at fun o e => Heap.get?_push_of_some _ e) (h2₅.at fun o e => Heap.get?_push_of_some _ e) hT₆ (by rw [Heap.size_push, hsz]) fun c o c1 c2 c3 e => Heap.get?_push_of_some _ (up c o c1 c2 c3 e)
theorem end_out {z TI TO i1 i2 l1 l2 a : Addr} {f : Bool} {oa : Obj} {k : Nat} {xs : Array Value} {Q : Option Value → Shared → Prop} (hh : A.handled = none) (D : ZipApart z TI TO i1 i2 l1 l2)
    (hz : ZipF s.heap z TI TO a f) (ha : s.heap.get? a = some oa) (hTI : IsPair s.heap TI (.ref i1) (.ref i2))
    (h1 : s.heap.IsListIter i1 l1 k) (hl1 : s.heap.IsList l1 xs) (hx : xs[k]? = none)
    (hQ : ∀ h', (∀ c o, c ≠ z → c ≠ i1 → s.heap.get? c = some o → h'.get? c = some o) → Q none { s with heap := h' }) :
    wpAny (model prog w) A (pyNext (.ref z)) Q E s := by
  have hT : s.TypeIs (.ref z) "zip" := ⟨_, hz, rfl⟩
  unfold pyNext
  refine wpAny_bind (wpAny_attempt (wpAny_callSpecial?_slot (name := Str.ofString "__next__") hT F.slot_zip_next
    (wpAny_call_entry F.slot_zip_next hT F.entry_zip_next ?_ (F.args_zip_next_1 _))))
  show wpAny _ _ (field (.ref z) 2 >>= _) _ _ _
  refine wpAny_bind (wpAny_field hz rfl (x := .bool false) rfl ?_)
  show wpAny _ _ (field (.ref z) 3 >>= _) _ _ _
  refine wpAny_bind (wpAny_field hz rfl (x := .ref TI) rfl ?_)
  refine wpAny_bind (wpAny_seqItems hTI rfl ?_)
  show wpAny _ _ (Builtin.SmallTypes.ownedTupleIsFree (.ref z) >>= _) _ _ _
  refine wpAny_bind (owned_out hz ha fun h₃ hz₃ hs₃ => ?_)
  simp only [Bool.false_eq_true, if_false]
  rw [← Array.forIn_toList]
  simp only [List.forIn_cons, List.forIn_nil]
  refine wpAny_bind ?_
  refine wpAny_bind ?_
  refine wpAny_bind (wpAny_holding ?_)
  show wpAny _ _ (Builtin.SmallTypes.nextOf (.ref i1) >>= _) _ _ _
  refine wpAny_bind (wpAny_nextOf_list_end hh (h1.extBut hs₃.extBut D.i1z) (hl1.extBut hs₃.extBut D.l1z) hx fun h₄ e hs₄ he => ?_)
  obtain ⟨oe, hoe, hce⟩ := he
  refine wpAny_bind (wpAny_isInstance (T := "StopIteration") (b := true) ⟨oe, hoe, hce⟩ isSubtype_stop ?_)
  exact wpAny_pure (hQ _ fun c o c1 c2 e => hs₄ _ _ c2 (hs₃.extBut _ _ c1 e))
/-- the zip at its k-th pair; S is the list that is made, as the tuples handed out -/
structure St (h : Heap) (z TI TO i1 i2 l1 l2 S : Addr) (xs ys : Array Value) (k : Nat) : Prop where
  own : IsZip h z TI TO .none ∨ ∃ a f oa, ZipF h z TI TO a f ∧ h.get? a = some oa ∧ S < a
  ti : IsPair h TI (.ref i1) (.ref i2)
  to : ∃ a b, IsPair h TO a b
  h1 : h.IsListIter i1 l1 k
  h2 : h.IsListIter i2 l2 k
  hl1 : h.IsList l1 xs
  hl2 : h.IsList l2 ys
/-- all of a zip below S -/
structure Low (z TI TO i1 i2 l1 l2 S : Addr) : Prop where
  z : z < S
  ti : TI < S
  to : TO < S
  i1 : i1 < S
  i2 : i2 < S
  l1 : l1 < S
  l2 : l2 < S
theorem St.keep {h h' : Heap} {z TI TO i1 i2 l1 l2 S : Addr} {xs ys : Array Value} {k : Nat} (L : Low z TI TO i1 i2 l1 l2 S) (x : St h z TI TO i1 i2 l1 l2 S xs ys k) (hk : ∀ b o, b ≠ S → h.get? b = some o → h'.get? b = some o) : St h' z TI TO i1 i2 l1 l2 S xs ys k := by
  have n : ∀ {b : Addr}, b < S → b ≠ S := fun h => Nat.ne_of_lt h
  refine ⟨?_, hk _ _ (n L.ti) x.ti, ?_, x.h1.at fun o e => hk _ o (n L.i1) e, x.h2.at fun o e => hk _ o (n L.i2) e, x.hl1.at fun o e => hk _ o (n L.l1) e, x.hl2.at fun o e => hk _ o (n L.l2) e⟩
  · rcases x.own with e | ⟨a, f, oa, e, ea, lt⟩
    · exact .inl (hk _ _ (n L.z) e)
    · exact .inr ⟨a, f, oa, hk _ _ (n L.z) e, hk _ _ (Nat.ne_of_gt lt) ea, lt⟩
  · obtain ⟨a, b, e⟩ := x.to
    exact ⟨a, b, hk _ _ (n L.to) e⟩
theorem item {z TI TO i1 i2 l1 l2 S : Addr} {k : Nat} {xs ys : Array Value} {x y : Value} {Q : Option Value → Shared → Prop} (D : ZipApart z TI TO i1 i2 l1 l2) (L : Low z TI TO i1 i2 l1 l2 S) (hst : St s.heap z TI TO i1 i2 l1 l2 S xs ys k) (hS : S < s.heap.objs.size)
    (hx : xs[k]? = some x) (hy : ys[k]? = some y)
    (hQ : ∀ h', St h' z TI TO i1 i2 l1 l2 S xs ys (k + 1) → IsPair h' s.heap.objs.size x y → (∀ b o, S ≤ b → s.heap.get? b = some o → h'.get? b = some o) → (∀ b o, b ≠ z → b ≠ TO → b ≠ i1 → b ≠ i2 → s.heap.get? b = some o → h'.get? b = some o) → Q (some (.ref s.heap.objs.size)) { s with heap := h' }) :
    wpAny (model prog w) A (pyNext (.ref z)) Q E s := by
  have g : ∀ {b c : Addr}, b < S → S ≤ c → c ≠ b := fun h1 h2 => Nat.ne_of_gt (Nat.lt_of_lt_of_le h1 h2)
  rcases hst.own with e | ⟨a, f, oa, e, ea, lt⟩
  · obtain ⟨a, b, eo⟩ := hst.to
    refine wpAny_pyNext_zip_item D e hst.ti eo hst.h1 hst.h2 hst.hl1 hst.hl2 hx hy fun h' z1 z2 z3 z4 z5 z6 z7 => ?_
    have up : ∀ b o, b ≠ z → b ≠ TO → b ≠ i1 → b ≠ i2 → s.heap.get? b = some o → h'.get? b = some o := fun b o c1 c2 c3 c4 e => z7 b o c1 c2 c3 c4 e
    exact hQ h' ⟨.inr ⟨_, false, _, z1, z5, hS⟩, up _ _ D.TIz D.TITO D.TIi1 D.TIi2 hst.ti, ⟨_, _, z2⟩, z3, z4, hst.hl1.at fun o e => up _ o D.l1z D.l1TO D.l1i1 D.l1i2 e, hst.hl2.at fun o e => up _ o D.l2z D.l2TO D.l2i1 D.l2i2 e⟩ z5 (fun b o lb e => up b o (g L.z lb) (g L.to lb) (g L.i1 lb) (g L.i2 lb) e) up
  · refine next_out D e ea hst.ti hst.h1 hst.h2 hst.hl1 hst.hl2 hx hy fun h' z1 z3 z4 z5 z6 z7 => ?_
    obtain ⟨b1, b2, eo⟩ := hst.to
    have up : ∀ b o, b ≠ z → b ≠ TO → b ≠ i1 → b ≠ i2 → s.heap.get? b = some o → h'.get? b = some o := fun b o c1 _ c3 c4 e => z7 b o c1 c3 c4 e
    exact hQ h' ⟨.inr ⟨_, true, _, z1, z7 _ _ (g L.z (Nat.le_of_lt lt)) (g L.i1 (Nat.le_of_lt lt)) (g L.i2 (Nat.le_of_lt lt)) ea, lt⟩, z7 _ _ D.TIz D.TIi1 D.TIi2 hst.ti, ⟨_, _, z7 _ _ D.TOz D.TOi1 D.TOi2 eo⟩, z3, z4, hst.hl1.at fun o e => z7 _ o D.l1z D.l1i1 D.l1i2 e, hst.hl2.at fun o e => z7 _ o D.l2z D.l2i1 D.l2i2 e⟩ z5 (fun b o lb e => up b o (g L.z lb) (g L.to lb) (g L.i1 lb) (g L.i2 lb) e) up
theorem done {z TI TO i1 i2 l1 l2 S : Addr} {k : Nat} {xs ys : Array Value} {Q : Option Value → Shared → Prop} (hh : A.handled = none) (D : ZipApart z TI TO i1 i2 l1 l2) (hst : St s.heap z TI TO i1 i2 l1 l2 S xs ys k) (hx : xs[k]? = none)
    (hQ : ∀ h', (∀ b o, b ≠ z → b ≠ TO → b ≠ i1 → b ≠ i2 → s.heap.get? b = some o → h'.get? b = some o) → Q none { s with heap := h' }) : wpAny (model prog w) A (pyNext (.ref z)) Q E s := by
  rcases hst.own with e | ⟨a, f, oa, e, ea, lt⟩
  · obtain ⟨a, b, eo⟩ := hst.to
    exact wpAny_pyNext_zip_end hh D e hst.ti eo hst.h1 hst.h2 hst.hl1 hst.hl2 (.inl hx) fun h' k => hQ h' k
  · exact end_out hh D e ea hst.ti hst.h1 hst.hl1 hx fun h' k => hQ h' fun b o c1 _ c3 _ e => k b o c1 c3 e
/-- the tuples made -/
structure Made (xs ys : Array Value) (lo : Addr) (h : Heap) (as : List Addr) : Prop where
  rise : as.Pairwise (· < ·)
  above : ∀ a ∈ as, lo < a
  pairs : ∀ (j : Nat) (a : Addr), as[j]? = some a → ∃ x y, xs[j]? = some x ∧ ys[j]? = some y ∧ IsPair h a x y
theorem Made.there {xs ys : Array Value} {lo : Addr} {h : Heap} {as : List Addr} (g : Made xs ys lo h as) {a : Addr} (ha : a ∈ as) : a < h.objs.size := by
  obtain ⟨j, hj⟩ := List.mem_iff_getElem?.mp ha
  obtain ⟨_, _, _, _, e⟩ := g.pairs j a hj
  exact Heap.lt_size e
theorem loop {R : Result → Shared → Prop} {z TI TO i1 i2 l1 l2 S : Addr} {xs ys : Array Value} {n : Nat} (hh : A.handled = none) (D : ZipApart z TI TO i1 i2 l1 l2) (L : Low z TI TO i1 i2 l1 l2 S) (n1 : xs.size = n) (n2 : ys.size = n) (hn : n ≤ sizeLine) (res : Value) {h₁ : Heap}
    (hR : ∀ h' tk acc c as, (∀ b o, b ≠ S → b ≠ z → b ≠ TO → b ≠ i1 → b ≠ i2 → h₁.get? b = some o → h'.get? b = some o) → h'.get? S = some { cls := .type "list", dict := none, data := .seq acc c, slots := #[] } → as.length = n → Made xs ys S h' as →
      acc.toList = as.map Value.ref → R (.ok (.ret res)) { s with heap := h', toks := tk }) :
    ∀ (k i : Nat) (h : Heap) (tk c : Nat) (acc : Array Value) (as : List Addr), n - i = k → i ≤ n → St h z TI TO i1 i2 l1 l2 S xs ys i → (∀ b o, b ≠ S → b ≠ z → b ≠ TO → b ≠ i1 → b ≠ i2 → h₁.get? b = some o → h.get? b = some o) →
      h.get? S = some { cls := .type "list", dict := none, data := .seq acc c, slots := #[] } → acc.toList = as.map Value.ref → as.length = i → Made xs ys S h as →
      codeAny (model prog w) A (.builtin "list.extend.loop" ⟨[.ref S, .ref z, res], []⟩) R { s with heap := h, toks := tk } := by
  have nz : S ≠ z := Nat.ne_of_gt L.z
  have nto : S ≠ TO := Nat.ne_of_gt L.to
  have ni1 : S ≠ i1 := Nat.ne_of_gt L.i1
  have ni2 : S ≠ i2 := Nat.ne_of_gt L.i2
  intro k
  induction k with
  | zero =>
    intro i h tk c acc as hk hi hst hkeep hS hacc hal hG
    have hin : i = n := by omega
    refine codeAny_builtin PySem.F.entry_extend_loop ?_
    rw [Around.under_plainId PySem.F.plain_extend_loop _]
    show wpAny _ A.in1 (pyNext (.ref z) >>= _) _ _ _
    refine wpAny_bind (done (s := { s with heap := h, toks := tk }) (A := A.in1) hh D hst (Array.getElem?_eq_none (by omega)) fun h' he => ?_)
    refine wpAny_pure (hR h' tk acc c as (fun b o h0 h1 h2 h3 h4 e => he b o h1 h2 h3 h4 (hkeep b o h0 h1 h2 h3 h4 e)) (he S _ nz nto ni1 ni2 hS) (by omega) ⟨hG.rise, hG.above, fun j a hj => ?_⟩ hacc)
    obtain ⟨x, y, e1, e2, e3⟩ := hG.pairs j a hj
    have la := hG.above a (List.mem_of_getElem? hj)
    have g : ∀ {b : Addr}, b < S → a ≠ b := fun h => Nat.ne_of_gt (Nat.lt_trans h la)
    exact ⟨x, y, e1, e2, he a _ (g L.z) (g L.to) (g L.i1) (g L.i2) e3⟩
  | succ k ih =>
    intro i h tk c acc as hk hi hst hkeep hS hacc hal hG
    have hlt : i < n := by omega
    obtain ⟨x, hx⟩ : ∃ p, xs[i]? = some p := ⟨xs[i], Array.getElem?_eq_getElem (by omega)⟩
    obtain ⟨y, hy⟩ : ∃ p, ys[i]? = some p := ⟨ys[i], Array.getElem?_eq_getElem (by omega)⟩
    have hsz : acc.size = i := by rw [← Array.length_toList, hacc, List.length_map, hal]
    have hSl : S < h.objs.size := Heap.lt_size hS
    refine codeAny_builtin PySem.F.entry_extend_loop ?_
    rw [Around.under_plainId PySem.F.plain_extend_loop _]
    show wpAny _ A.in1 (pyNext (.ref z) >>= _) _ _ _
    refine wpAny_bind (item (s := { s with heap := h, toks := tk }) (S := S) D L hst hSl hx hy fun h' hst' ht hge hkp => ?_)
    dsimp only at ht hge hkp ⊢
    have hS' := hge S _ (Nat.le_refl _) hS
    have up : ∀ b o, b ≠ S → h'.get? b = some o → (h'.update S (Obj.mapSeq (·.push (Value.ref h.objs.size)))).get? b = some o := fun b o hb e => (Heap.get?_update_other _ _ (Ne.symm hb)).trans e
    show wpAny _ A.in1 (updateSeq S (·.push (Value.ref h.objs.size)) >>= _) _ _ _
    refine wpAny_bind ?_
    refine wpAny_updateSeq hS' rfl (wpAny_pure ⟨plainId_quiet PySem.F.plain_extend_loop _, ih (i + 1) _ tk _ (acc.push (Value.ref h.objs.size)) (as ++ [h.objs.size]) (by omega) hlt (hst'.keep L up)
      (fun b o h0 h1 h2 h3 h4 e => up b o h0 (hkp b o h1 h2 h3 h4 (hkeep b o h0 h1 h2 h3 h4 e))) (Heap.get?_update_self _ hS' rfl) (by rw [Array.toList_push, hacc, List.map_append]; rfl) (by rw [List.length_append, hal]; rfl) ⟨?_, ?_, ?_⟩⟩) (by rw [hsz]; omega) (by show (acc.push (Value.ref h.objs.size)).size ≤ sizeLine + 1; rw [Array.size_push, hsz]; omega)
    · refine List.pairwise_append.mpr ⟨hG.rise, List.pairwise_singleton _ _, fun a ha b hb => ?_⟩
      rw [List.mem_singleton.mp hb]
      exact hG.there ha
    · intro a ha
      rcases List.mem_append.mp ha with ha | ha
      · exact hG.above a ha
      · rw [List.mem_singleton.mp ha]
        exact hSl
    · intro j b hj
      rcases Nat.lt_trichotomy j as.length with h1 | h1 | h1
      · rw [List.getElem?_append_left h1] at hj
        obtain ⟨x', y', e1, e2, e3⟩ := hG.pairs j b hj
        have hb := hG.above b (List.mem_of_getElem? hj)
        exact ⟨x', y', e1, e2, up b _ (Nat.ne_of_gt hb) (hge b _ (Nat.le_of_lt hb) e3)⟩
      · subst h1
        have hb : h.objs.size = b := by simpa using hj
        subst hb
        exact ⟨x, y, by rw [hal]; exact hx, by rw [hal]; exact hy, up _ _ (Nat.ne_of_gt hSl) ht⟩
      · have hnone : (as ++ [h.objs.size])[j]? = none := List.getElem?_eq_none (by rw [List.length_append, List.length_singleton]; omega)
        rw [hnone] at hj
        cases hj
end
theorem zip_no_len : typeLookup (.type "zip") "__len__" = pure none := by rw [typeLookup_type, builtinLookup_eq_fast]; kernel_rfl
theorem zip_no_hint : typeLookup (.type "zip") "__length_hint__" = pure none := by rw [typeLookup_type, builtinLookup_eq_fast]; kernel_rfl
section
variable {prog : Program} {w : World} {A : Around} {E : Value → Shared → Prop} {s : Shared} {z TI TO i1 i2 l1 l2 : Addr} {xs ys : Array Value} {n : Nat}
theorem extend {R : Result → Shared → Prop} {S : Addr} (hh : A.handled = none) (D : ZipApart z TI TO i1 i2 l1 l2) (L : Low z TI TO i1 i2 l1 l2 S) (n1 : xs.size = n) (n2 : ys.size = n) (hn : n ≤ sizeLine) (hst : St s.heap z TI TO i1 i2 l1 l2 S xs ys 0) (hz : IsZip s.heap z TI TO .none)
    (res : Value) (c₀ : Nat) (hS : s.heap.get? S = some { cls := .type "list", data := .seq #[] c₀ })
    (hR : ∀ h' tk acc c as, (∀ b o, b ≠ S → b ≠ z → b ≠ TO → b ≠ i1 → b ≠ i2 → s.heap.get? b = some o → h'.get? b = some o) → h'.get? S = some { cls := .type "list", dict := none, data := .seq acc c, slots := #[] } → as.length = n → Made xs ys S h' as →
      acc.toList = as.map Value.ref → R (.ok (.ret res)) { s with heap := h', toks := tk }) :
    wpAny (model prog w) A.in1 (Builtin.List.listExtendWith (.ref S) (.ref z) res)
      (fun fin s' => match fin with | .done f => R (.ok f) s' | .again c' => c'.quiet = true ∧ codeAny (model prog w) A c' R s') (fun e s' => R (.error e) s') s := by
  have hT : s.TypeIs (.ref z) "zip" := ⟨_, hz, rfl⟩
  have nz : S ≠ z := Nat.ne_of_gt L.z
  have key : ∀ (h : Heap) (c₁ : Nat), (∀ b o, b ≠ S → s.heap.get? b = some o → h.get? b = some o) → h.get? S = some { cls := .type "list", data := .seq #[] c₁ } →
      codeAny (model prog w) A (.builtin "list.extend.loop" ⟨[.ref S, .ref z, res], []⟩) R { s with heap := h, toks := s.toks } := by
    intro h c₁ hk hS₁
    exact loop (s := s) (h₁ := s.heap) hh D L n1 n2 hn res hR n 0 h s.toks c₁ #[] [] (Nat.sub_zero _) (Nat.zero_le _) (hst.keep L hk) (fun b o h0 _ _ _ _ e => hk b o h0 e) hS₁ rfl rfl
      ⟨List.Pairwise.nil, (fun _ ha => nomatch ha), (fun j a hj => by simp at hj)⟩
  unfold Builtin.List.listExtendWith
  refine wpAny_bind (wpAny_typeOf (T := "zip") hT ?_)
  have h1 : Builtin.List.listSameRef (.ref S) (.ref z) = false := by simp [Builtin.List.listSameRef, nz]
  have h2 : (Value.type "zip" == Value.type "list") = false := by decide
  have h3 : (Value.type "zip" == Value.type "tuple") = false := by decide
  simp only [h1, h2, h3, Bool.or_false, Bool.false_eq_true, if_false]
  refine wpAny_bind (wpAny_pyIter_zip hz ?_)
  refine wpAny_bind (wpAny_holding ?_)
  unfold Builtin.List.listLengthHint
  refine wpAny_bind (wpAny_specialOf hT zip_no_len ?_)
  show wpAny _ A.in1 (specialOf (Value.ref z) (Str.ofString "__length_hint__") >>= _) _ _ _
  refine wpAny_bind (wpAny_specialOf hT zip_no_hint ?_)
  refine wpAny_pure ?_
  refine wpAny_ite_split (fun _ => ?_) (fun _ => wpAny_pure ⟨plainId_quiet PySem.F.plain_extend_loop _, key _ c₀ (fun b o _ e => e) hS⟩)
  refine wpAny_bind (wpAny_rule ?_)
  refine wpAny_bind ?_
  show wpAny _ _ (updateSeq S (·.push .none) >>= fun _ => updateSeq S (·.pop)) _ _ _
  refine wpAny_bind (wpAny_updateSeq hS rfl ?_)
  have hS₂ := Heap.get?_update_self (Obj.mapSeq (·.push Value.none)) hS rfl
  refine wpAny_updateSeq (hz := by seq_fits) hS₂ rfl ?_
  have hS₃ := Heap.get?_update_self (Obj.mapSeq (·.pop)) hS₂ rfl
  refine wpAny_pure ⟨plainId_quiet PySem.F.plain_extend_loop _, key _ _ (fun b o hb e => ?_) hS₃⟩
  exact (Heap.get?_update_other _ _ (Ne.symm hb)).trans ((Heap.get?_update_other _ _ (Ne.symm hb)).trans e)
theorem init {R : Result → Shared → Prop} {S : Addr} (hh : A.handled = none) (D : ZipApart z TI TO i1 i2 l1 l2) (L : Low z TI TO i1 i2 l1 l2 S) (n1 : xs.size = n) (n2 : ys.size = n) (hn : n ≤ sizeLine) (hst : St s.heap z TI TO i1 i2 l1 l2 S xs ys 0) (hz : IsZip s.heap z TI TO .none)
    (hS : s.heap.get? S = some { cls := .type "list", data := .seq #[] })
    (hR : ∀ h' tk acc c as, (∀ b o, b ≠ S → b ≠ z → b ≠ TO → b ≠ i1 → b ≠ i2 → s.heap.get? b = some o → h'.get? b = some o) → h'.get? S = some { cls := .type "list", dict := none, data := .seq acc c, slots := #[] } → as.length = n → Made xs ys S h' as →
      acc.toList = as.map Value.ref → R (.ok (.ret .none)) { s with heap := h', toks := tk }) :
    wpAny (model prog w) A.in1 (Builtin.«list.__init__» ⟨[.ref S, .ref z], []⟩)
      (fun fin s' => match fin with | .done f => R (.ok f) s' | .again c' => c'.quiet = true ∧ codeAny (model prog w) A c' R s') (fun e s' => R (.error e) s') s := by
  show wpAny _ _ (do let old ← Builtin.List.listItems (.ref S); Builtin.List.listUpdate (.ref S) (fun _ => #[]); letGo old.toList.reverse; Builtin.List.listExtendWith (.ref S) (.ref z) .none) _ _ s
  refine wpAny_bind ?_
  unfold Builtin.List.listItems
  refine wpAny_bind (wpAny_seqItems hS rfl (wpAny_pure ?_))
  show wpAny _ _ (updateSeq S (fun _ => #[]) >>= fun _ => letGo (#[] : Array Value).toList.reverse >>= fun _ => Builtin.List.listExtendWith (.ref S) (.ref z) .none) _ _ s
  refine wpAny_bind (wpAny_updateSeq hS rfl ?_)
  have hS₂ := Heap.get?_update_self (Obj.mapSeq (fun _ => (#[] : Array Value))) hS rfl
  have oth : ∀ b o, b ≠ S → s.heap.get? b = some o → (s.heap.update S (Obj.mapSeq (fun _ => (#[] : Array Value)))).get? b = some o :=
    fun b o hb e => (Heap.get?_update_other _ _ (Ne.symm hb)).trans e
  refine wpAny_bind (wpAny_letGo ?_)
  refine extend hh D L n1 n2 hn (hst.keep L oth) (oth _ _ (Nat.ne_of_lt L.z) hz) .none _ hS₂ fun h' tk acc c as hk hS' hl hG hacc => ?_
  exact hR h' tk acc c as (fun b o h0 h1 h2 h3 h4 e => hk b o h0 h1 h2 h3 h4 (oth b o h0 e)) hS' hl hG hacc
theorem call_list {Q : Value → Shared → Prop} (hh : A.handled = none) (D : ZipApart z TI TO i1 i2 l1 l2) (L : Low z TI TO i1 i2 l1 l2 s.heap.objs.size) (n1 : xs.size = n) (n2 : ys.size = n) (hn : n ≤ sizeLine) (hst : St s.heap z TI TO i1 i2 l1 l2 s.heap.objs.size xs ys 0) (hz : IsZip s.heap z TI TO .none)
    (hQ : ∀ h' tk acc c as, (∀ b o, b ≠ z → b ≠ TO → b ≠ i1 → b ≠ i2 → s.heap.get? b = some o → h'.get? b = some o) → h'.get? s.heap.objs.size = some { cls := .type "list", dict := none, data := .seq acc c, slots := #[] } → as.length = n → Made xs ys s.heap.objs.size h' as →
      acc.toList = as.map Value.ref → Q (.ref s.heap.objs.size) { s with heap := h', toks := tk }) :
    wpAny (model prog w) A (call (.type "list") [.ref z]) Q E s := by
  refine callType_codes (Q₁ := fun obj s₁ => obj = .ref s.heap.objs.size ∧ s₁ = { s with heap := s.heap.push { cls := .type "list", data := .seq #[] } }) PySem.F.called_list (PySem.F.typeCall_list_1 _) PySem.F.entry_list_init
    (code_list_new _ ⟨rfl, rfl⟩) fun obj s₁ h₁ => ?_
  obtain ⟨rfl, rfl⟩ := h₁
  have hS : (s.heap.push { cls := .type "list", data := .seq #[] }).get? s.heap.objs.size = some { cls := .type "list", data := .seq #[] } := Heap.get?_push_size _ rfl
  refine ⟨⟨_, hS, rfl⟩, PySem.F.args_list_init_2 _ _, init (A := A.in1) hh D L n1 n2 hn (hst.keep L fun b o _ e => Heap.get?_push_of_some _ e) (Heap.get?_push_of_some _ hz) hS (fun h' tk acc c as hk hS' hl hG hacc => ?_)⟩
  exact ⟨rfl, hQ h' tk acc c as (fun b o h1 h2 h3 h4 e => hk b o (Nat.ne_of_lt (Heap.lt_size e)) h1 h2 h3 h4 (Heap.get?_push_of_some _ e)) hS' hl hG hacc⟩
end
/-- the tuples tracked at their addresses -/
def putT : Hp → List Addr → List (V × V) → Hp
  | H, a :: as, p :: kvs => putT (upd H a (.tup [p.1, p.2])) as kvs
  | H, _, _ => H
theorem putT_off {b : Addr} : ∀ (as : List Addr) (kvs : List (V × V)) (H : Hp), b ∉ as → putT H as kvs b = H b
  | [], _, _, _ => rfl
  | _ :: _, [], _, _ => rfl
  | a :: as, p :: kvs, H, h => by
    show putT (upd H a (.tup [p.1, p.2])) as kvs b = H b
    rw [putT_off as kvs _ (fun z => h (List.mem_cons_of_mem _ z)), upd_ne (fun z => h (by rw [z]; exact List.mem_cons_self))]
theorem putT_at : ∀ (as : List Addr) (kvs : List (V × V)) (H : Hp), as.length = kvs.length → as.Nodup → Paired (fun (t : Addr) (p : V × V) => putT H as kvs t = some (.tup [p.1, p.2])) as kvs
  | [], [], _, _, _ => .nil
  | [], _ :: _, _, h, _ => by cases h
  | _ :: _, [], _, h, _ => by cases h
  | a :: as, p :: kvs, H, h, hn => by
    have hn' := List.nodup_cons.mp hn
    have ih := putT_at as kvs (upd H a (.tup [p.1, p.2])) (Nat.succ.inj h) hn'.2
    refine .cons ?_ ih
    show putT (upd H a (.tup [p.1, p.2])) as kvs a = some (.tup [p.1, p.2])
    rw [putT_off as kvs _ hn'.1, upd_same]
theorem laid {X : Cx} {pins : List (Addr × Obj)} {σ : L2.St} {H : Hp} {s : Shared} {h' : Heap} {tk : Nat} {vs us : List V} {xs ys : List Value} {acc : Array Value} {c : Nat} {as : List Addr} {S : Addr} (I : Inv X pins σ H s) (lS : s.heap.objs.size ≤ S) (hz : vs.length ≤ sizeLine) (le : vs.length = us.length) (rv : Vals vs xs) (ru : Vals us ys)
    (hk : ∀ b o, s.heap.get? b = some o → h'.get? b = some o) (hS : h'.get? S = some { cls := .type "list", dict := none, data := .seq acc c, slots := #[] }) (hl : as.length = vs.length) (hG : Made xs.toArray ys.toArray S h' as) (hacc : acc.toList = as.map Value.ref) :
    ∃ H' : Hp, (∀ b o, H b = some o → H' b = some o) ∧ H S = none ∧ (∀ t ∈ as, H t = none) ∧ S ∉ as ∧ H' S = some (.lst (as.map V.ref)) ∧ Paired (fun (t : Addr) (q : V × V) => H' t = some (.tup [q.1, q.2])) as (vs.zip us) ∧ Inv X pins σ H' { s with heap := h', toks := tk } := by
  have hSn : S ∉ as := fun z => Nat.lt_irrefl _ (hG.above _ z)
  have nd : as.Nodup := List.Pairwise.imp (fun {a b} (h : a < b) => Nat.ne_of_lt h) hG.rise
  have new : ∀ t ∈ as, H t = none := fun t ht => I.hok.fresh (Nat.le_trans lS (Nat.le_of_lt (hG.above t ht)))
  have newS : H S = none := I.hok.fresh lS
  have atP := putT_at as (vs.zip us) (upd H S (.lst (as.map V.ref))) (by rw [List.length_zip]; omega) nd
  have off : ∀ b, b ∉ as → b ≠ S → putT (upd H S (.lst (as.map V.ref))) as (vs.zip us) b = H b := fun b h1 h2 => by rw [putT_off as (vs.zip us) _ h1, upd_ne h2]
  have low : ∀ b o, s.heap.get? b = some o → b ∉ as ∧ b ≠ S := fun b o e => ⟨fun z => absurd (Nat.lt_of_lt_of_le (Heap.lt_size e) lS) (Nat.not_lt.mpr (Nat.le_of_lt (hG.above b z))), Nat.ne_of_lt (Nat.lt_of_lt_of_le (Heap.lt_size e) lS)⟩
  have kp : ∀ b u, H b = some u → (putT (upd H S (.lst (as.map V.ref))) as (vs.zip us)) b = some u := fun b u e => by
    rw [off b (fun z => by rw [new b z] at e; cases e) (fun z => by rw [z, newS] at e; cases e)]
    exact e
  have eS : putT (upd H S (.lst (as.map V.ref))) as (vs.zip us) S = some (.lst (as.map V.ref)) := by rw [putT_off as (vs.zip us) _ hSn, upd_same]
  refine ⟨putT (upd H S (.lst (as.map V.ref))) as (vs.zip us), kp, newS, new, hSn, eS, atP, ?_⟩
  refine I.call' (ch := []) rfl ⟨fun b o q _ _ _ => hk b o q, fun b o q _ _ _ => ⟨o.slots, hk b o q⟩, fun b o q n _ => ?_, fun b o q _ => ⟨o, hk b o q⟩, fun b xs q => kp b _ q, fun b o u q => kp b _ q, fun b ps q => ⟨#[], by rw [kp b _ q]; simp⟩⟩ (fun b u q => ?_) I.bare fun b z => by simp at z
  · obtain ⟨z1, z2⟩ := low b o q
    rw [off b z1 z2]
    exact n
  · by_cases hb : b ∈ as
    · obtain ⟨j, pk, e1, e2, e3⟩ := LiI.paired_ix atP hb
      rw [e3] at q
      cases q
      obtain ⟨x, y, f1, f2, f3⟩ := hG.pairs j b e1
      obtain ⟨g1, g2⟩ := List.getElem?_zip_eq_some.mp e2
      obtain ⟨x', m1, m2⟩ := rv.get g1
      obtain ⟨y', m3, m4⟩ := ru.get g2
      have ex : x' = x := by
        rw [List.getElem?_toArray, m1] at f1
        exact Option.some.inj f1
      have ey : y' = y := by
        rw [List.getElem?_toArray, m3] at f2
        exact Option.some.inj f2
      subst ex ey
      exact ⟨by show 2 ≤ sizeLine; decide, [x', y'], .cons m2 (.cons m4 .nil), ⟨_, f3, rfl, _, rfl⟩⟩
    · by_cases hb2 : b = S
      · rw [hb2] at q ⊢
        rw [eS] at q
        cases q
        refine ⟨by rw [List.length_map]; omega, acc.toList, c, by rw [hacc]; exact LiI.vals_refs as, ?_⟩
        rw [Array.toArray_toList]
        exact hS
      · rw [off b hb hb2] at q
        exact (I.hok b u q).stay (fun d v _ y => hk d v y) (fun d y => kp d _ y) fun d xs y => kp d _ y
def rListZip (K : PySem.W.Frag) : List V → Hp → VK → Prop := fun zs H Q => ∃ (a b : Addr) (vs us : List V), zs = [.ref a, .ref b] ∧ SqL K H a vs ∧ SqL K H b us ∧ vs.length = us.length ∧
  ∀ (H' : Hp) (p : Addr) (ts : List Addr), (∀ b o, H b = some o → H' b = some o) → H p = none → (∀ t ∈ ts, H t = none) → p ∉ ts → H' p = some (.lst (ts.map V.ref)) → Paired (fun (t : Addr) (q : V × V) => H' t = some (.tup [q.1, q.2])) ts (vs.zip us) → Q (.ref p) H'
def tListZip (K : PySem.W.Frag) (ta : TA) : TE := fun σ H Q => ta σ H fun zs H1 => rListZip K zs H1 Q
/-- list(zip(xs, ys)) -/
theorem pe_listZip {X : Cx} {e e2 : Expr} {ta : TA} {p pz pz2 pos : Pos} (hc : X.calm = true) (hg : Gl X "list") (hm : X.mg "list" = none) (hgz : Gl X "zip") (hmz : X.mg "zip" = none) (ha : PA X [e, e2] ta) (hv : bootBuiltins "list" = some (.type "list") := by rfl)
    (hs : starEach [e, e2] X.env = (false, eval e X.env) :: starEach [e2] X.env := by rfl) (hpl : (backTo pz2 (starEach [e2] X.env)).any (·.1) = false := by rfl)
    (hs1 : starEach [.Call (.Name "zip" pz) [e, e2] [] pz2] X.env = (false, eval (.Call (.Name "zip" pz) [e, e2] [] pz2) X.env) :: starEach [] X.env := by rfl) :
    PE X (.Call (.Name "list" p) [.Call (.Name "zip" pz) [e, e2] [] pz2] [] pos) (tListZip X.K ta) := by
  refine ⟨fun pins s σ H Q I hq => ?_⟩
  refine wpAny_Call_Name_kw (ld_blt I hg hm hv ?_)
  refine PyProof.Rows.callWith_type1 ?_ hs1 rfl
  rw [hs1]
  show wpAny _ _ (spliced ((false, eval (.Call (.Name "zip" pz) [e, e2] [] pz2) X.env) :: backTo pos (starEach [] X.env))) _ _ s
  refine Calls.spliced_cons ?_
  refine Call_ (ld_blt I hgz hmz PyProof.Rows.boot_zip (PyProof.Rows.callWith_type1 (thn (ha.run pz2 pins s σ H _ I hq) fun us s1 ⟨vs, H1, I1, r1, q1⟩ => ?_) hs hpl))
  obtain ⟨a, b, xs, ys, ex, hqx, hqy, hlen, q⟩ := q1
  subst ex
  cases r1 with
  | cons r rr =>
    cases rr with
    | cons r' rr =>
      cases rr
      cases r
      cases r'
      obtain ⟨its, rv, p1, z1⟩ := I1.list hqx
      obtain ⟨its2, rv2, p2, _⟩ := I1.list hqy
      have la : a < s1.heap.objs.size := p1.lt
      have lb : b < s1.heap.objs.size := p2.lt
      have n1 := rv.length
      have n2 := rv2.length
      refine call_zip_2 p1.isList p2.isList fun h' hz hTI hTO h1 h2 hsz hk => ?_
      refine Calls.spliced_nil ?_
      have L : Low (s1.heap.objs.size + 4) (s1.heap.objs.size + 2) (s1.heap.objs.size + 3) s1.heap.objs.size (s1.heap.objs.size + 1) a b h'.objs.size := by
        rw [hsz]
        exact ⟨Nat.add_lt_add_left (by decide) _, Nat.add_lt_add_left (by decide) _, Nat.add_lt_add_left (by decide) _, Nat.lt_add_of_pos_right (by decide), Nat.add_lt_add_left (by decide) _, Nat.lt_of_lt_of_le la (Nat.le_add_right _ _), Nat.lt_of_lt_of_le lb (Nat.le_add_right _ _)⟩
      refine call_list (s := { s1 with heap := h' }) (n := xs.length) (xs := its.toArray) (ys := its2.toArray) (I1.ok.hd hc) (PySem.W.ktu_apart s1.heap.objs.size a b la lb) L (by rw [List.size_toArray]; omega) (by rw [List.size_toArray]; omega) z1
        ⟨.inl hz, hTI, ⟨_, _, hTO⟩, h1, h2, p1.isList.at fun o e => hk _ o e, p2.isList.at fun o e => hk _ o e⟩ hz fun h2' tk acc c as hk2 hS hl hG hacc => ?_
      have old : ∀ c o, s1.heap.get? c = some o → h2'.get? c = some o := fun c o e => by
        have lc := Heap.lt_size e
        exact hk2 c o (Nat.ne_of_lt (Nat.lt_of_lt_of_le lc (Nat.le_add_right _ _))) (Nat.ne_of_lt (Nat.lt_of_lt_of_le lc (Nat.le_add_right _ _))) (Nat.ne_of_lt lc) (Nat.ne_of_lt (Nat.lt_of_lt_of_le lc (Nat.le_add_right _ _))) (hk c o e)
      obtain ⟨H', k1, k2, k3, k4, k5, k6, J⟩ := laid (tk := tk) I1 (by show s1.heap.objs.size ≤ h'.objs.size; rw [hsz]; exact Nat.le_add_right _ _) z1 hlen rv rv2 old hS hl hG hacc
      exact ⟨.ref _, H', J, rfl, q H' _ as k1 k2 k3 k4 k5 k6⟩
end L2.Zx

/-! Tuples that are known to be of the plain kind, and dict(t) of a tuple of pairs. -/
namespace L2.Hx
open PySem PySem.Spec PyProof.Rows
def PlO (o : Obj) : Prop := o.cls = .type "tuple" ∧ o.dict = none
def PlT (H : Hp) (a : Addr) (xs : List V) : Prop := ∃ o, PlO o ∧ H a = some (.frz o (.tup xs))
theorem PlT.sqT {K : PySem.W.Frag} {H : Hp} {a : Addr} {xs : List V} (h : PlT H a xs) : SqT K H a xs := by
  obtain ⟨o, _, e⟩ := h
  exact .inl (.inr ⟨o, e⟩)
theorem PlT.same {G H : Hp} {a : Addr} {xs : List V} (s : Same G H) (h : PlT G a xs) : PlT H a xs := by
  obtain ⟨o, p, e⟩ := h
  exact ⟨o, p, s _ _ e⟩
def tTupP (t : TA) : TE := fun σ H Q => t σ H fun xs H1 => xs.length ≤ sizeLine ∧ ∀ p o, PlO o → H1 p = none → Q (.ref p) (upd H1 p (.frz o (.tup xs)))
section
variable {X : Cx}
theorem pe_tupP {es : List Expr} {pos : Pos} {t : TA} {x1} (h : PA X es t) : PE X (.Tuple es x1 pos) (tTupP t) := by
  refine ⟨fun pins s σ H Q I hq => ?_⟩
  refine wpAny_Tuple_spliced (thn (h.run pos pins s σ H _ I hq) fun us s1 ⟨xs, H1, I1, r, z, q⟩ => ⟨by rw [← r.length]; exact z, ?_⟩)
  have hf : H1 s1.heap.objs.size = none := I1.hok.fresh (Nat.le_refl _)
  refine ⟨.ref s1.heap.objs.size, _, I1.laid (t' := s1.toks) (o := .frz { cls := .type "tuple", data := .seq us.toArray } (.tup xs)) (fun b u e => Heap.get?_push_of_some _ e) (Nat.le_refl _) ?_, rfl, q _ _ ⟨rfl, rfl⟩ hf⟩
  exact ⟨Heap.get?_push_size _ rfl, z, us, r, ⟨_, Heap.get?_push_size _ rfl, rfl, _, rfl⟩⟩
theorem call_tuple_ofP : CallR X (.type "tuple") (fun xs H Q => ∃ p ys, xs = [.ref p] ∧ SqL X.K H p ys ∧ ∀ l o, PlO o → H l = none → Q (.ref l) (upd H l (.frz o (.tup ys)))) := by
  intro pins s σ H xs us Q I r h
  obtain ⟨p, ys, rfl, hq, q⟩ := h
  obtain ⟨u, rfl, rx⟩ := vals1 r
  cases rx
  obtain ⟨its, r', pl, hz⟩ := I.list hq
  have hlen := r'.length
  refine call_tuple_list pl.isList (fun h' kp => ?_) (by simp only [List.size_toArray] <;> omega)
  have I1 : Inv X pins σ H { s with heap := h' } := I.kept (t' := s.toks) kp
  have I2 : Inv X pins σ (upd H h'.objs.size (.frz { cls := .type "tuple", data := .seq its.toArray } (.tup ys))) { s with heap := h'.push { cls := .type "tuple", data := .seq its.toArray } } :=
    I1.laid (t' := s.toks) (fun b o e => Heap.get?_push_of_some _ e) (Nat.le_refl _) (show ObjOk X.prog X.w _ _ _ (.frz _ (.tup ys)) from ⟨Heap.get?_push_size _ rfl, hz, its, r', IsTup.new _ _⟩)
  exact ⟨.ref h'.objs.size, _, I2, rfl, q _ _ ⟨rfl, rfl⟩ (I1.hok.fresh (Nat.le_refl _))⟩
/-- t + u, none of both empty -/
def rCatP (K : PySem.W.Frag) : R2 := fun x y H Q => ∃ a b xs ys, x = .ref a ∧ y = .ref b ∧ SqT K H a xs ∧ SqT K H b ys ∧ xs ≠ [] ∧ ys ≠ [] ∧ xs.length + ys.length ≤ sizeLine ∧ ∀ p o, PlO o → H p = none → Q (.ref p) (upd H p (.frz o (.tup (xs ++ ys))))
theorem op_catP : OpR X (binaryOp .Add) (rCatP X.K) := by
  intro pins s σ H x y v u Q I rx ry h
  obtain ⟨a, b, xs, ys, rfl, rfl, ha, hb, hx, hy, hz, q⟩ := h
  cases rx
  cases ry
  obtain ⟨its, r1, p1, _⟩ := I.tuple ha
  obtain ⟨its2, r2, p2, _⟩ := I.tuple hb
  refine HT.cat_tup p1 p2 (fun z => hx (r1.nil_iff.mp z)) (fun z => absurd (r2.nil_iff.mp z) hy) (fun z => ?_) (by rw [← r1.length, ← r2.length]; exact hz)
  refine ⟨.ref s.heap.objs.size, _, I.laid (t' := s.toks) (o := .frz { cls := .type "tuple", data := .seq (its ++ its2).toArray } (.tup (xs ++ ys))) (fun b ob q => Heap.get?_push_of_some _ q) (Nat.le_refl _) ?_, rfl, q _ _ ⟨rfl, rfl⟩ (I.hok.fresh (Nat.le_refl _))⟩
  exact ⟨Heap.get?_push_size _ rfl, by rw [List.length_append]; exact hz, _, r1.append r2, IsTup.new _ _⟩
theorem pairs_v {pins : List (Addr × Obj)} {σ : L2.St} {H : Hp} {s : Shared} (I : Inv X pins σ H s) : ∀ {ps : List Addr} {kvs : List (Key × V)}, Paired (fun p kv => SqT X.K H p [kV kv.1, kv.2]) ps kvs →
    ∃ (prs : List (Key × Value)) (vvs : List (Value × Value)), KV kvs prs ∧ prs.length = ps.length ∧ vvs.length = ps.length ∧ ∀ (j : Nat) (k v : Value), vvs[j]? = some (k, v) → ∃ (b : Addr) (key : Key), ps[j]? = some b ∧ IsTup s.heap b #[k, v] ∧ prs[j]? = some (key, v) ∧ keyIs key k = true
  | _, _, .nil => ⟨[], [], .nil, rfl, rfl, fun j k v e => by simp at e⟩
  | _, _, .cons (a := p) (b := kv) h t => by
    obtain ⟨prs, vvs, r, hl, hl2, hp⟩ := pairs_v I t
    obtain ⟨its, rv, ht, _⟩ := I.tuple h
    obtain ⟨u, y, ei, ru, ry⟩ := vals2 rv
    subst ei
    refine ⟨(kv.1, y) :: prs, (u, y) :: vvs, .cons ⟨rfl, ry⟩ r, by rw [List.length_cons, List.length_cons, hl], by rw [List.length_cons, List.length_cons, hl2], fun j k v e => ?_⟩
    cases j with
    | zero =>
      have e' : (u, y) = (k, v) := Option.some.inj e
      cases e'
      exact ⟨p, kv.1, rfl, ht, rfl, kV_is (P := X.prog) (w := X.w) ru⟩
    | succ j =>
      obtain ⟨b, key, e1, e2, e3, e4⟩ := hp j k v (by simpa using e)
      exact ⟨b, key, by simpa using e1, e2, by simpa using e3, e4⟩
/-- dict(t), t a plain tuple of pairs -/
def rDictT (K : PySem.W.Frag) : List V → Hp → VK → Prop := fun xs H Q => ∃ (a : Addr) (ps : List Addr) (kvs : List (Key × V)), xs = [.ref a] ∧ PlT H a (ps.map V.ref) ∧ Paired (fun p kv => SqT K H p [kV kv.1, kv.2]) ps kvs ∧
  ∀ p, H p = none → Q (.ref p) (upd H p (.dK (mergeK [] kvs)))
theorem call_dictPT (hcalm : X.calm = true) : CallR X (.type "dict") (rDictT X.K) := by
  intro pins s σ H xs us Q I r q
  obtain ⟨a, ps, kvs, ex, ⟨ob, ⟨oc, od⟩, ha⟩, hp, q⟩ := q
  subst ex
  obtain ⟨u, eu, rx⟩ := vals1 r
  subst eu
  cases rx
  obtain ⟨e, hz, its, rv, o2, ho2, hc2, n, hd2⟩ := I.hok a _ ha
  have eo : ob = o2 := by
    rw [e] at ho2
    exact Option.some.inj ho2
  subst eo
  have ei := refs_at rv
  subst ei
  rw [List.length_map] at hz
  obtain ⟨prs, vvs, rel, hl, hl2, hpr⟩ := pairs_v I hp
  refine PySem.call_dict_pairs (knd := mixKind X.prog X.w) (kvs := prs) (PairArg.tuple a (ps.map Value.ref).toArray (fun j => ps.getD j 0) vvs) (I.ok.hd hcalm) ⟨⟨ob, n, e, oc, od, hd2⟩, by rw [List.size_toArray, List.length_map, hl2], fun j k v hj => ?_⟩ ⟨by rw [hl, hl2], fun i key v hv => ?_⟩ (by rw [hl2]; exact hz) fun h' tk hd' hk => ?_
  · obtain ⟨b, key, e1, e2, e3, e4⟩ := hpr j k v hj
    have eb : ps.getD j 0 = b := by rw [List.getD_eq_getElem?_getD, e1]; rfl
    refine ⟨?_, .inl ?_⟩
    · show _ = some (Value.ref (ps.getD j 0))
      rw [List.getElem?_toArray, List.getElem?_map, e1, eb]
      rfl
    · show s.heap.IsTuple (ps.getD j 0) _
      rw [eb]
      exact e2
  · obtain ⟨b, kk, e1, e2, e3, e4⟩ := hpr i key v hv
    exact ⟨kk, e3, e4⟩
  · have hm : (s.heap.objs.size == sysModules) = false := beq_eq_false_iff_ne.mpr (Nat.ne_of_gt I.big)
    have hlen : (mergeK [] kvs).length ≤ sizeLine := by
      refine Nat.le_trans (length_mergeK kvs []) ?_
      rw [List.length_nil, Nat.zero_add, rel.length, hl]
      exact hz
    exact ⟨.ref s.heap.objs.size, upd H s.heap.objs.size (.dK (mergeK [] kvs)), I.laid (t' := tk) (fun b o e => hk b o List.not_mem_nil e) (Nat.le_refl _) (show ObjOk X.prog X.w _ _ _ (.dK (mergeK [] kvs)) from ⟨hlen, hm, merged [] prs, KV.merge rel .nil, hd'⟩), rfl, q _ (I.hok.fresh (Nat.le_refl _))⟩
end
/-- a def by the names of its parameters, in any order: g puts them in order -/
theorem pe_kwg {X : Cx} {k j : Nat} {x : Str} {ps ks : List Str} {sp : Sp} {p pos : Pos} {kws : List Keyword} {tk : TA} {g : {α : Type} → List α → List α} (F : ∃ f fd, FnG X.prog X.w X.K X.mg X.base CX0 k f fd ps sp ∧ X.mg x = some (.ref f) ∧ PySem.W.keepIn X.K (.ref f) = true ∧ KwBinds X.K fd ps ks g) (hgd : X.A.guards = some []) (hr : Room j X.A) (hkw : PK X kws tk)
    (hrel : ∀ {zs : List V} {ws : List Value}, Vals zs ws → Vals (g zs) (g ws)) (hj : k ≤ j := by first | exact Nat.le_refl _ | decide)
    (hg : Gl X x := by rfl) (hall : (backToKw pos (keywordEach kws X.env)).all (·.1.isSome) = true := by rfl) (hks : (backToKw pos (keywordEach kws X.env)).filterMap (·.1) = ks := by rfl) (hdb : (x == ("__debug__" : Str)) = false := by decide)
    (hpl : ((backTo pos (starEach [] X.env)).any (·.1) || (backToKw pos (keywordEach kws X.env)).any (·.1.isNone)) = false := by rfl) :
    PE X (.Call (.Name x p) [] kws pos) (tKw sp g ps.length E0 tk) := by
  obtain ⟨f, fd, a, b, c, d⟩ := F
  exact pe_kw a hgd (hr.mono hj) hg b c d pass0 hkw hrel hall hks hdb hpl
/-- three by turns: the last two come first -/
def rot3 {α : Type} : List α → List α
  | [a, b, c] => [b, c, a]
  | l => l
def swap2 {α : Type} : List α → List α
  | [a, b] => [b, a]
  | l => l
theorem rot3_rel {zs : List V} {ws : List Value} (h : Vals zs ws) : Vals (rot3 zs) (rot3 ws) := by
  match zs, ws, h with
  | [], [], .nil => exact .nil
  | [_], [_], .cons a .nil => exact .cons a .nil
  | [_, _], [_, _], .cons a (.cons b .nil) => exact .cons a (.cons b .nil)
  | [_, _, _], [_, _, _], .cons a (.cons b (.cons c .nil)) => exact .cons b (.cons c (.cons a .nil))
  | _ :: _ :: _ :: _ :: _, _ :: _ :: _ :: _ :: _, h => exact h
theorem swap2_rel {zs : List V} {ws : List Value} (h : Vals zs ws) : Vals (swap2 zs) (swap2 ws) := by
  match zs, ws, h with
  | [], [], .nil => exact .nil
  | [_], [_], .cons a .nil => exact .cons a .nil
  | [_, _], [_, _], .cons a (.cons b .nil) => exact .cons b (.cons a .nil)
  | _ :: _ :: _ :: _, _ :: _ :: _ :: _, h => exact h
end L2.Hx

/-! A tuple turned about, and a tuple beside the empty one. -/
namespace L2.Hx
open PySem PySem.Spec PyProof.Rows HT
section
variable {prog : Program} {w : World} {A : Around} {E : Value → Shared → Prop} {s : Shared}
theorem adjust_rev (n : Nat) : Builtin.Slice.sliceAdjust none none (-1) (n : Int) = ((n : Int) - 1, -1) := by
  unfold Builtin.Slice.sliceAdjust
  simp
theorem places_rev (n : Nat) : Builtin.Slice.slicePlaces ((n : Int) - 1) (-1) (-1) = n := by
  unfold Builtin.Slice.slicePlaces
  have h1 : ¬ ((-1 : Int) > 0) := by omega
  have h2 : (-(-1) : Int) = 1 := by omega
  simp only [h1, if_false, h2, Int.ediv_one]
  split <;> omega
theorem fm_congr {α : Type} {f g : Nat → Option α} : ∀ {l : List Nat}, (∀ m ∈ l, f m = g m) → l.filterMap f = l.filterMap g
  | [], _ => rfl
  | m :: l, h => by
    rw [List.filterMap_cons, List.filterMap_cons, h m List.mem_cons_self, fm_congr fun x hx => h x (List.mem_cons_of_mem _ hx)]
theorem sliceApplied_rev {sl : Addr} {vs : Value} {n : Nat} {Q : Int × Int × Nat → Shared → Prop} (hs : s.heap.IsSliceOf sl .none .none vs) (ps : IsPart vs (some (-1))) (h : Q ((n : Int) - 1, -1, n) s) :
    wpAny (model prog w) A (Builtin.Slice.sliceApplied (.ref sl) (pure (n : Int))) Q E s := by
  obtain ⟨os, hos, hcs, hds⟩ := id hs
  unfold Builtin.Slice.sliceApplied Builtin.Slice.sliceFields
  refine wpAny_bind (wpAny_bind (wpAny_field hos hds (x := .none) rfl (wpAny_bind (wpAny_field hos hds (x := .none) rfl (wpAny_bind (wpAny_field hos hds (x := vs) rfl (wpAny_pure ?_)))))))
  refine wpAny_bind (slicePart_ ps ?_)
  show wpAny _ _ (if ((-1 : Int) == 0) = true then _ else _) _ _ s
  rw [if_neg (by decide)]
  refine wpAny_bind (PyProof.Rows.slicePart_none (wpAny_bind (PyProof.Rows.slicePart_none (wpAny_bind (wpAny_pure ?_)))))
  show wpAny _ _ (match Builtin.Slice.sliceAdjust none none (-1) (n : Int) with | (lo, hi) => pure (lo, (-1 : Int), Builtin.Slice.slicePlaces lo hi (-1))) _ _ s
  rw [adjust_rev]
  show wpAny _ _ (pure ((n : Int) - 1, (-1 : Int), Builtin.Slice.slicePlaces ((n : Int) - 1) (-1) (-1))) _ _ s
  rw [places_rev]
  exact wpAny_pure h
theorem pick_rev (xs : Array Value) : ((List.range xs.size).filterMap fun (m : Nat) => xs[(((xs.size : Int) - 1) + (m : Int) * (-1)).toNat]?).toArray = xs.toList.reverse.toArray := by
  have e : (List.range xs.size).filterMap (fun (m : Nat) => xs[(((xs.size : Int) - 1) + (m : Int) * (-1)).toNat]?) = (List.range xs.size).filterMap (fun (m : Nat) => (xs.toList.reverse.toArray)[(((0 : Nat) : Int) + (m : Int) * 1).toNat]?) := by
    refine fm_congr fun m hm => ?_
    have hm := List.mem_range.mp hm
    rw [show (((0 : Nat) : Int) + (m : Int) * 1).toNat = m by omega, show xs.toList.reverse.toArray[m]? = xs.toList.reverse[m]? by simp, List.getElem?_reverse (by rw [Array.length_toList]; exact hm), Array.getElem?_toList, Array.length_toList]
    congr 1
    omega
  rw [e, pick_gen, List.drop_zero, List.toList_toArray, List.take_of_length_le (by simp)]
theorem getItem_tuple_rev {t sl : Addr} {items : Array Value} {vs : Value} {Q : Value → Shared → Prop} (ht : IsTup s.heap t items) (hs : s.heap.IsSliceOf sl .none .none vs) (ps : IsPart vs (some (-1)))
    (h : Q (.ref s.heap.objs.size) { s with heap := s.heap.push { cls := .type "tuple", data := .seq items.toList.reverse.toArray } }) (hsz : items.size ≤ sizeLine) : wpAny (model prog w) A (getItem (.ref t) (.ref sl)) Q E s := by
  have htake : sizeOk (.seq items.toList.reverse.toArray) := by
    show items.toList.reverse.toArray.size ≤ sizeLine
    rw [List.size_toArray, List.length_reverse, Array.length_toList]
    exact hsz
  obtain ⟨os, hos, hcs, hds⟩ := id hs
  have hTs : s.TypeIs (.ref sl) "slice" := ⟨os, hos, hcs⟩
  unfold getItem
  try with_reducible refine wpAny_holding ?_
  first | refine wpAny_bind (wpAny_pure ?_) | skip
  refine wpAny_bind (wpAny_sequenceKey ht.typeIs (by decide) ?_)
  refine wpAny_bind (wpAny_callSpecial?_slot (name := Str.ofString "__getitem__") ht.typeIs PyProof.Rows.slot_tuple_getitem
    (wpAny_call_entry PyProof.Rows.slot_tuple_getitem ht.typeIs entry_tuple_getitem ?_ (args_tuple_getitem _ _)))
  show wpAny _ _ (Builtin.Tuple.tupleItemsOf (.ref t) >>= _) _ _ s
  refine wpAny_bind (tupleItemsOf_ ht ?_)
  refine wpAny_bind (wpAny_typeOf hTs ?_)
  rw [if_pos (by decide)]
  refine wpAny_bind (sliceApplied_rev hs ps ?_)
  have hno : ¬ ((((items.size : Int) - 1) == 0 && (-1 : Int) == 1 && items.size == items.size) = true) := by simp
  show wpAny _ _ (if (((items.size : Int) - 1) == 0 && (-1 : Int) == 1 && items.size == items.size) = true then _ else _) _ _ s
  rw [if_neg hno, pick_rev]
  first
    | exact wpAny_bind (m := Builtin.Tuple.tupleExact _) (wpAny_newObj_type (wpAny_pure ⟨_, rfl, wpAny_pure h⟩) htake)
    | exact wpAny_bind (m := Builtin.Tuple.tupleExact _) (wpAny_newObj_type (wpAny_bind (wpAny_pure (wpAny_pure ⟨_, rfl, wpAny_pure h⟩))) htake)
    | exact wpAny_bind (wpAny_bind (m := Builtin.Tuple.tupleExact _) (wpAny_newObj_type (wpAny_pure (wpAny_pure ⟨_, rfl, wpAny_pure h⟩)) htake))
    | exact wpAny_bind (wpAny_bind (m := Builtin.Tuple.tupleExact _) (wpAny_newObj_type (wpAny_pure ⟨_, rfl, wpAny_pure h⟩) htake))
end
/-- t[::-1] -/
def tRevT (K : PySem.W.Frag) (te : TE) : TE := fun σ H Q => te σ H fun x H1 => ∃ a xs, x = .ref a ∧ SqT K H1 a xs ∧ ∀ p, H1 p = none → Q (.ref p) (upd H1 p (.tup xs.reverse))
theorem pe_revT {X : Cx} {e : Expr} {te : TE} {k : Nat} {p1 p2 p3 pos : Pos} (he : PE X e te) : PE X (.Subscript e (.Slice none none (some (.UnaryOp .USub (.Constant (.int 1) k p1) p2)) p3) pos) (tRevT X.K te) := by
  refine ⟨fun pins s σ H Q I h => ?_⟩
  refine Subscript_ (thn (he.run pins s σ H _ I h) fun v s1 ⟨x, H1, I1, r1, q1⟩ => ?_)
  obtain ⟨a, xs, ex, hx, q⟩ := q1
  subst ex
  cases r1
  have hst : PO X (some (.UnaryOp .USub (.Constant (.int 1) k p1) p2)) (tPart (tUn (rU fun i => .int (-i)) (tC (.int 1)))) := po_some (pe_un un_neg pe_int)
  refine wpAny_Slice (thn (po_none.run pins s1 σ H1 (fun o H2 => o = none ∧ H2 = H1) I1 ⟨rfl, rfl⟩) fun vl s2 ⟨l, H2, I2, pl, el, e2⟩ => ?_)
  subst el e2
  refine thn (po_none.run pins s2 σ H2 (fun o H3 => o = none ∧ H3 = H2) I2 ⟨rfl, rfl⟩) fun vu s3 ⟨u, H3, I3, pu, eu, e3⟩ => ?_
  subst eu e3
  refine thn (hst.run pins s3 σ H3 (fun o H4 => o = some (-1) ∧ H4 = H3) I3 ⟨1, rfl, -1, rfl, rfl, rfl⟩) fun vs s4 ⟨o, H4, I4, ps, eo, e4⟩ => ?_
  subst eo e4
  have I5 : Inv X pins σ H4 { s4 with heap := s4.heap.push { cls := .type "slice", data := .fields #[vl, vu, vs] } } := I4.kept (t' := s4.toks) fun b ob q => Heap.get?_push_of_some _ q
  obtain ⟨its, r, ht, hz⟩ := I5.tuple hx
  have hlen := r.length
  cases pl
  cases pu
  show wpAny (model X.prog X.w) X.A (subscriptTail e (.Slice none none (some (.UnaryOp .USub (.Constant (.int 1) k p1) p2)) p3) (.ref a) (.ref s4.heap.objs.size)) (EP X pins σ Q) X.xe { s4 with heap := s4.heap.push { cls := .type "slice", data := .fields #[.none, .none, vs] } }
  refine tail_any (ops := [.ref a, .ref s4.heap.objs.size]) ht.typeIs (PyProof.Rows.slot_tuple_getitem.lookup) ?_ (by with_unfolding_all rfl)
  refine getItem_tuple_rev ht (Heap.IsSliceOf.new _ .none .none vs) ps ?_ (by rw [List.size_toArray]; omega)
  refine ⟨.ref _, _, I5.laid (t' := s4.toks) (o := .tup xs.reverse) (fun b ob q => Heap.get?_push_of_some _ q) (Nat.le_refl _) ?_, rfl, q _ (I5.hok.fresh (Nat.le_refl _))⟩
  exact ⟨by rw [List.length_reverse]; omega, its.reverse, r.reverse, ⟨_, Heap.get?_push_size _ rfl, rfl, _, rfl⟩⟩
/-! ### t == () -/
def rEqNil (K : PySem.W.Frag) : R2 := fun x y H Q => ∃ a b xs, x = .ref a ∧ y = .ref b ∧ SqT K H a xs ∧ SqT K H b [] ∧ Q (.bl xs.isEmpty) H
theorem op_eqNil {X : Cx} (hu : X.A.units + 64 < cLine) : OpR X (compareOp .Eq) (rEqNil X.K) := by
  intro pins s σ H x y v u Q I rx ry h
  obtain ⟨a, b, xs, rfl, rfl, ha, hb, q⟩ := h
  cases rx
  cases ry
  obtain ⟨its, r1, p1, _⟩ := I.tuple ha
  obtain ⟨its2, r2, p2, _⟩ := I.tuple hb
  cases r2
  refine SeqAt.RcAt.tuples (e := fun _ => true) p1 p2 (by omega) (fun j h1 h2 => absurd h2 (by simp)) _ _ _ _ ⟨.bl _, H, I, rfl, ?_⟩
  have e : ((List.range (min its.toArray.size ([] : List Value).toArray.size)).all (fun _ => true) && its.toArray.size == ([] : List Value).toArray.size) = xs.isEmpty := by
    cases xs with
    | nil =>
      cases r1
      rfl
    | cons x xs =>
      cases r1
      rfl
  rw [e]
  exact q
end L2.Hx

/-! sorted of pairs of a text and an int; dict(zip(xs, ys)) of ints; x in t, t a tuple of data. -/
namespace L2.Sk
open PySem PySem.Spec PyProof.Rows Srt
section
variable {prog : Program} {w : World} {A : Around} {E : Value → Shared → Prop} {s : Shared}
theorem oneLt_str {a b : Str} {t u : Tok} {Q : Bool → Shared → Prop} (h : Q (decide (a.cps.toList < b.cps.toList)) s) : wpAny (model prog w) A (oneLt' true (.str a t) (.str b u)) Q E s := by
  rw [oneLt'_eq]
  simp only [if_true]
  refine wpAny_bind (wpAny_cRoomFor_byValue rfl ?_)
  refine wpAny_bind (wpAny_callSpecialIfBound?_slot (typeIs_str s a t) slot_str_lt (call_str_lt ?_))
  exact wpAny_truthy_bool h
def IsPairS (h : Heap) (v : Value) (x : Str) (y : Int) : Prop := ∃ a o t u n, v = .ref a ∧ h.get? a = some o ∧ o.cls = .type "tuple" ∧ o.data = .seq #[.str x t, .int y u] n
theorem IsPairS.keeps {h h' : Heap} {v : Value} {x : Str} {y : Int} (p : IsPairS h v x y) (k : ∀ b o, h.get? b = some o → o.cls = .type "tuple" → h'.get? b = some o) : IsPairS h' v x y := by
  obtain ⟨a, o, t, u, n, e, ho, hc, hd⟩ := p
  exact ⟨a, o, t, u, n, e, k _ _ ho hc, hc, hd⟩
theorem pair_tot {vs : List Value} (hp : ∀ v ∈ vs, ∃ x y, IsPairS s.heap v x y) : Tot prog w A s (tuples' true) (fun p => p.1 ∈ vs) := by
  intro p q hm hm'
  obtain ⟨x, y, a, o, t, u, n, e, ho, hc, hd⟩ := hp _ hm
  obtain ⟨x', y', a', o', t', u', n', e', ho', hc', hd'⟩ := hp _ hm'
  rw [e, e']
  refine ⟨if (x == x') = true then (if y = y' then false else decide (y < y')) else decide (x.cps.toList < x'.cps.toList), ?_⟩
  refine PySem.W.kat_lt ho hd ho' hd' ?_
  show PySem.W.KatLex prog w A true (decide (2 < 2)) _ [(.str x t, .str x' t'), (.int y u, .int y' u')] 0 s
  refine PySem.W.kat_cons (SeqAt.EqAt.str_str x t x' t' prog w _ _ ?_)
  refine PySem.W.kat_go (fun e1 => ?_) (fun e1 => ?_)
  · refine PySem.W.kat_yes (PySem.W.kat_cons (SeqAt.EqAt.int_int y u y' u' prog w _ _ ?_))
    refine PySem.W.kat_go (fun e2 => ?_) (fun e2 => ?_)
    · have ey : y = y' := by simpa using e2
      have e3 : (if (x == x') = true then (if y = y' then false else decide (y < y')) else decide (x.cps.toList < x'.cps.toList)) = false := by rw [if_pos e1, if_pos ey]
      exact PySem.W.kat_yes (PySem.W.kat_nil ⟨rfl, e3.symm⟩)
    · have ey : ¬ y = y' := by simpa using e2
      have e3 : (if (x == x') = true then (if y = y' then false else decide (y < y')) else decide (x.cps.toList < x'.cps.toList)) = decide (y < y') := by rw [if_pos e1, if_neg ey]
      refine PySem.W.kat_no (PySem.W.kat_one _ _ (PyProof.Rows.lt_int ?_))
      exact (show s = s ∧ decide (y < y') = (if (x == x') = true then (if y = y' then false else decide (y < y')) else decide (x.cps.toList < x'.cps.toList)) from ⟨rfl, e3.symm⟩)
  · have e3 : (if (x == x') = true then (if y = y' then false else decide (y < y')) else decide (x.cps.toList < x'.cps.toList)) = decide (x.cps.toList < x'.cps.toList) := by rw [if_neg (by rw [e1]; exact Bool.false_ne_true)]
    exact PySem.W.kat_no (oneLt_str ⟨rfl, e3.symm⟩)
theorem firsts_of {h : Heap} : ∀ {vs : List Value}, (∀ v ∈ vs, ∃ x y, IsPairS h v x y) → ∃ fs : List Value, PySem.W.KatTups h vs fs ∧ fs.length = vs.length ∧ ∀ f ∈ fs, ∃ x t, f = Value.str x t
  | [], _ => ⟨[], PySem.W.KatTups.nil, rfl, fun _ hm => by simp at hm⟩
  | v :: vs, hp => by
    obtain ⟨fs, h1, h2, h3⟩ := firsts_of (vs := vs) fun v' hm => hp v' (List.mem_cons_of_mem _ hm)
    obtain ⟨x, y, a, o, t, u, n, e, ho, hc, hd⟩ := hp v (List.mem_cons_self ..)
    subst e
    refine ⟨.str x t :: fs, PySem.W.KatTups.cons ho hc hd rfl h1, by rw [List.length_cons, List.length_cons, h2], fun f hm => ?_⟩
    rcases List.mem_cons.mp hm with rfl | hm
    · exact ⟨x, t, rfl⟩
    · exact h3 f hm
theorem pairs_sortable {a : Addr} {vs : List Value} (h0 : 0 < vs.length) (hp : ∀ v ∈ vs, ∃ x y, IsPairS s.heap v x y) (ha : ∀ o, s.heap.get? a = some o → o.cls ≠ .type "tuple") : Sortable prog w A s a vs := by
  intro h' keep
  have hp' : ∀ v ∈ vs, ∃ x y, IsPairS h' v x y := fun v hm => by
    obtain ⟨x, y, p⟩ := hp v hm
    exact ⟨x, y, p.keeps fun b o e c => keep b o (fun z => by subst z; exact ha o e c) e⟩
  obtain ⟨fs, h1, h2, h3⟩ := firsts_of hp'
  refine ⟨tuples' true, fun Q E hq => ?_, pair_tot hp'⟩
  refine PySem.W.kat_kind (T := .type "str") h1 (by omega) (fun f hm => ?_) (by rfl) ?_
  · obtain ⟨x, t, rfl⟩ := h3 f hm
    exact PySem.W.Looks.now
  · have e : (Value.type "str" != Value.type "tuple") = true := by first | decide +kernel | rfl | decide
    rw [e]
    exact hq
theorem sorted_pairs {l : Addr} {vs : List Value} {Q : Value → Shared → Prop} (hl : s.heap.IsList l vs.toArray) (hz : vs.length ≤ sizeLine) (hp : ∀ v ∈ vs, ∃ x y, IsPairS s.heap v x y)
    (h : ∀ (h' : Heap) (d : Addr) (out : List Value), out.Perm vs → (∀ b o, s.heap.get? b = some o → h'.get? b = some o) → s.heap.objs.size ≤ d → (∃ n, h'.get? d = some (seqObj "list" out.toArray n)) → Q (.ref d) { s with heap := h' }) :
    wpAny (model prog w) A (call (.builtin "sorted") [.ref l]) Q E s := by
  refine sorted_any hl hz (fun h2 h₁ a ha k => ?_) fun out ho => ?_
  · refine pairs_sortable (s := { s with heap := h₁ }) (by omega) (fun v hm => ?_) fun o e => ?_
    · obtain ⟨x, y, p⟩ := hp v hm
      exact ⟨x, y, p.keeps fun b o e _ => (k b o e).2⟩
    · have e' : some o = some (seqObj "list" vs.toArray 0) := e.symm.trans ha
      cases e'
      intro c
      exact absurd (Value.type.inj c) (by decide)
  · exact h _ _ out ho (fun b o e => sortedAll_old e) (Nat.le_succ _) (sortedAll_at s.heap vs out.toArray)
end
end L2.Sk
namespace L2
open PySem PySem.Spec PyProof.Rows
section
variable {X : Cx}
/-- sorted(xs), xs a list of pairs of a text and an int: the same in another order -/
def rSortedSP (K : PySem.W.Frag) : List V → Hp → VK → Prop := fun vs H Q => ∃ a xs, vs = [V.ref a] ∧ SqL K H a xs ∧ (∀ x ∈ xs, ∃ t i j, x = V.ref t ∧ SqT K H t [.str i, .int j]) ∧
  ∀ ys p, ys.Perm xs → H p = none → Q (.ref p) (upd H p (.lst ys))
theorem cr_sortedSP : CallR X (.builtin "sorted") (rSortedSP X.K) := by
  intro pins s σ H vs us Q I r h
  obtain ⟨a, xs, rfl, hs, hx, q⟩ := h
  obtain ⟨its, rv, hl, hz⟩ := I.list hs
  obtain ⟨u, rfl, ru⟩ := vals1 r
  obtain rfl : u = Value.ref a := ru
  obtain ⟨e1, e2⟩ := refs_back rv fun x m => by
    obtain ⟨t, _, _, e, _⟩ := hx x m
    exact ⟨t, e⟩
  refine Sk.sorted_pairs hl.isList (by rw [← rv.length]; exact hz) (fun v hv => ?_) fun h' d out hp k hd hn => ?_
  · obtain ⟨t, rfl⟩ := e2 v hv
    have hm : V.ref t ∈ xs := by rw [e1]; exact List.mem_map.mpr ⟨_, hv, rfl⟩
    obtain ⟨t', i, j, e, ht⟩ := hx _ hm
    cases e
    obtain ⟨its2, r2, ⟨o, ho, hc, n, hd⟩, _⟩ := I.tuple ht
    obtain ⟨u1, u2, rfl, ri, rj⟩ := vals2 r2
    obtain ⟨t1, rfl⟩ := ri
    obtain ⟨t2, rfl⟩ := rj
    exact ⟨i, j, t, o, t1, t2, n, rfl, ho, hc, hd⟩
  · have h3 : ∀ u ∈ out, ∃ a, u = Value.ref a := fun u hu => e2 u (hp.mem_iff.mp hu)
    obtain ⟨n, hn⟩ := hn
    refine ⟨.ref d, upd H d (.lst (out.map backV)), I.laid (t' := s.toks) k hd ⟨?_, out, n, vals_back h3, hn⟩, rfl, q _ d ?_ (I.hok.fresh hd)⟩
    · rw [List.length_map, hp.length_eq, ← rv.length]; exact hz
    · rw [e1]; exact hp.map backV
/-- sorted(xs), xs a list of pairs of ints that stand anywhere: a new list, sorted -/
def rSortedPT (K : PySem.W.Frag) : List V → Hp → VK → Prop := fun vs H Q => ∃ (a : Addr) (xs : List V) (k : V → Int × Int), vs = [V.ref a] ∧ SqL K H a xs ∧ (∀ x ∈ xs, ∃ t, x = V.ref t ∧ SqT K H t [.int (k x).1, .int (k x).2]) ∧
  ∀ ys p, SrtO.Srtd (ltP k) ys → ys.Perm xs → H p = none → Q (.ref p) (upd H p (.lst ys))
theorem cr_sortedPT : CallR X (.builtin "sorted") (rSortedPT X.K) := by
  intro pins s σ H vs us Q I r h
  obtain ⟨a, xs, k, rfl, hs, hx, q⟩ := h
  obtain ⟨its, rv, hl, hz⟩ := I.list hs
  obtain ⟨u, rfl, ru⟩ := vals1 r
  obtain rfl : u = Value.ref a := ru
  obtain ⟨e1, e2⟩ := refs_back rv fun x m => by
    obtain ⟨t, e, _⟩ := hx x m
    exact ⟨t, e⟩
  refine SrtO.sorted_pairsO (k := fun u => k (backV u)) hl.isList (by rw [← rv.length]; exact hz) (fun v hv => ?_) fun h' d out h1 h2 kp hd hn => ?_
  · obtain ⟨t, rfl⟩ := e2 v hv
    have hm : V.ref t ∈ xs := by rw [e1]; exact List.mem_map.mpr ⟨_, hv, rfl⟩
    obtain ⟨t', e, ht⟩ := hx _ hm
    cases e
    obtain ⟨its2, r2, ⟨o, ho, hc, n, hd⟩, _⟩ := I.tuple ht
    obtain ⟨u1, u2, rfl, ri, rj⟩ := vals2 r2
    obtain ⟨t1, rfl⟩ := ri
    obtain ⟨t2, rfl⟩ := rj
    exact ⟨t, o, t1, t2, n, rfl, ho, hc, hd⟩
  · have h3 : ∀ u ∈ out, ∃ a, u = Value.ref a := fun u hu => e2 u (h2.perm.mem_iff.mp hu)
    obtain ⟨n, hn⟩ := hn
    have hb : SrtO.Stb (ltP k) (out.map backV) xs := by
      rw [e1]
      exact SrtO.Stb.map (ltP_swo k) backV h2
    refine ⟨.ref d, upd H d (.lst (out.map backV)), I.laid (t' := s.toks) kp hd ⟨?_, out, n, vals_back h3, hn⟩, rfl, q _ d (SrtO.srtd_map h1) hb.perm (I.hok.fresh hd)⟩
    rw [hb.len]
    exact hz
theorem units65 {k : Nat} {A : Around} (r : Room k A) : A.units + 65 < cLine := by have := r.un; omega
/-- x in t, both any data, t a tuple -/
def rInT (K : PySem.W.Frag) : R2 := fun x y H Q => ∃ d ds, Dp K H x d ∧ Dp K H y (.tuple ds) ∧ SeqAt.shaped d = true ∧ SeqAt.shaped (.tuple ds) = true ∧ Q (.bl (ds.any fun z => PyData.eqv z d)) H
theorem op_inT (hu : X.A.units + 65 < cLine) : OpR X (compareOp .In) (rInT X.K) := by
  intro pins s σ H x y v u Q I rx ry h
  obtain ⟨d, ds, hd, he, sd, se, q⟩ := h
  obtain ⟨as, r1⟩ := Dp.reads I d x v hd rx
  obtain ⟨bs, r2⟩ := Dp.reads I (.tuple ds) y u he ry
  exact SeqAt.in_tuple_reads r2 r1 (SeqAt.canLay_of_shaped se) (SeqAt.canLay_of_shaped sd) (room_in_shaped sd hu) ⟨.bl _, H, I, rfl, q⟩
/-- d != {} -/
def rNeDct : R2 := fun x y H Q => ∃ a b ks, x = .ref a ∧ y = .ref b ∧ H a = some (.dK ks) ∧ H b = some (.dK []) ∧ Q (.bl (!ks.isEmpty)) H
theorem op_neDct (hu : X.A.units < cLine) : OpR X (compareOp .NotEq) rNeDct := by
  intro pins s σ H x y v u Q I rx ry h
  obtain ⟨a, b, ks, rfl, rfl, ea, eb, q⟩ := h
  obtain rfl : v = Value.ref a := rx
  obtain rfl : u = Value.ref b := ry
  obtain ⟨_, ya, va, ra, da⟩ := (show ObjOk X.prog X.w H s.heap a (.dK ks) from I.hok a _ ea)
  obtain ⟨_, yb, vb, rb, db⟩ := (show ObjOk X.prog X.w H s.heap b (.dK []) from I.hok b _ eb)
  have l1 := ra.length
  have l2 := rb.length
  refine PySem.W.keq_ne (knd := mixKind X.prog X.w) (r := true) ya yb da db hu (fun e => ?_) (fin_bl I q ?_)
  · have e0 : ks = [] := List.length_eq_zero_iff.mp (by rw [l1, e, ← l2]; rfl)
    subst e0
    exact hits_all rb ra fun p m => absurd m List.not_mem_nil
  · rw [← l1, ← l2]
    cases ks <;> rfl
/-- dict(zip(xs, ys)), two lists of ints -/
def rDictZip (K : PySem.W.Frag) : List V → Hp → VK → Prop := fun zs H Q => ∃ (a b : Addr) (ns us : List Int), zs = [.ref a, .ref b] ∧ SqL K H a (ns.map V.int) ∧ SqL K H b (us.map V.int) ∧ ns.length ≤ us.length ∧
  ∀ p, H p = none → Q (.ref p) (upd H p (.dK (mergeK [] ((ns.zip us).map fun q => ((.inl q.1 : Key), V.int q.2)))))
def tDictZip (K : PySem.W.Frag) (ta : TA) : TE := fun σ H Q => ta σ H fun zs H1 => rDictZip K zs H1 Q
theorem zip_rel {xs ys : List Value} {ns us : List Int} (r1 : Vals (ns.map V.int) xs) (r2 : Vals (us.map V.int) ys) : KV ((ns.zip us).map fun q => ((.inl q.1 : Key), V.int q.2)) ((ns.zip ys).map fun q => ((.inl q.1 : Key), q.2)) := by
  induction ns generalizing us xs ys with
  | nil => exact .nil
  | cons n ns ih =>
    cases us with
    | nil =>
      cases r2
      exact .nil
    | cons u us =>
      cases r1 with
      | cons a1 b1 =>
        cases r2 with
        | cons a2 b2 => exact .cons ⟨rfl, a2⟩ (ih b1 b2)
theorem pe_dictZip {e e2 : Expr} {ta : TA} {p pz pz2 pos : Pos} (hc : X.calm = true) (hg : Gl X "dict") (hm : X.mg "dict" = none) (hgz : Gl X "zip") (hmz : X.mg "zip" = none) (ha : PA X [e, e2] ta) (hv : bootBuiltins "dict" = some (.type "dict") := by rfl)
    (hs : starEach [e, e2] X.env = (false, eval e X.env) :: starEach [e2] X.env := by rfl) (hpl : (backTo pz2 (starEach [e2] X.env)).any (·.1) = false := by rfl)
    (hs1 : starEach [.Call (.Name "zip" pz) [e, e2] [] pz2] X.env = (false, eval (.Call (.Name "zip" pz) [e, e2] [] pz2) X.env) :: starEach [] X.env := by rfl) :
    PE X (.Call (.Name "dict" p) [.Call (.Name "zip" pz) [e, e2] [] pz2] [] pos) (tDictZip X.K ta) := by
  refine ⟨fun pins s σ H Q I hq => ?_⟩
  refine wpAny_Call_Name_kw (ld_blt I hg hm hv ?_)
  refine PyProof.Rows.callWith_type1 ?_ hs1 rfl
  rw [hs1]
  show wpAny _ _ (spliced ((false, eval (.Call (.Name "zip" pz) [e, e2] [] pz2) X.env) :: backTo pos (starEach [] X.env))) _ _ s
  refine Calls.spliced_cons ?_
  refine Call_ (ld_blt I hgz hmz PyProof.Rows.boot_zip (PyProof.Rows.callWith_type1 (thn (ha.run pz2 pins s σ H _ I hq) fun us s1 ⟨vs, H1, I1, r1, q1⟩ => ?_) hs hpl))
  obtain ⟨a, b, ns, ms, ex, hqx, hqy, hlen, q⟩ := q1
  subst ex
  cases r1 with
  | cons r rr =>
    cases rr with
    | cons r' rr =>
      cases rr
      cases r
      cases r'
      obtain ⟨its, rv, p1, z1⟩ := I1.list hqx
      obtain ⟨its2, rv2, p2, _⟩ := I1.list hqy
      have la : a < s1.heap.objs.size := p1.lt
      have lb : b < s1.heap.objs.size := p2.lt
      have n1 := rv.length
      have n2 := rv2.length
      rw [List.length_map] at n1 n2
      refine call_zip_2 p1.isList p2.isList fun h' hz hTI hTO h1 h2 hsz hk => ?_
      refine Calls.spliced_nil ?_
      have I2 : Inv X pins σ H1 { s1 with heap := h' } := I1.kept (t' := s1.toks) hk
      have ml : min its.toArray.size its2.toArray.size = ns.length := by rw [List.size_toArray, List.size_toArray]; omega
      refine PySem.call_dict_pairs (s := { s1 with heap := h' }) (knd := mixKind X.prog X.w) (kvs := (ns.zip its2).map fun q => ((.inl q.1 : Key), q.2)) (PairArg.zip (s1.heap.objs.size + 4) (s1.heap.objs.size + 2) (s1.heap.objs.size + 3) s1.heap.objs.size (s1.heap.objs.size + 1) a b (PySem.W.ktu_apart s1.heap.objs.size a b la lb) its.toArray its2.toArray)
        (I2.ok.hd hc) ⟨hz, hTI, ⟨_, _, hTO⟩, h1, h2, p1.isList.at fun o e => hk _ o e, p2.isList.at fun o e => hk _ o e⟩ ⟨by rw [List.length_map, List.length_zip, ml]; omega, fun i key v hv => ?_⟩ (by rw [ml]; rw [List.length_map] at z1; exact z1) fun h2' tk hd' hk2 => ?_
      · obtain ⟨e1, e2⟩ := hv
        rw [List.getElem?_toArray] at e1 e2
        have hi : i < ns.length := by
          have := (List.getElem?_eq_some_iff.mp e1).1
          omega
        obtain ⟨u, f1, f2⟩ := rv.get (i := i) (x := .int ns[i]) (by rw [List.getElem?_map, List.getElem?_eq_getElem hi]; rfl)
        rw [e1] at f1
        cases f1
        obtain ⟨t, rfl⟩ := f2
        refine ⟨.inl ns[i], ?_, keyIs_int _ t⟩
        have ez : (ns.zip its2)[i]? = some (ns[i], v) := List.getElem?_zip_eq_some.mpr ⟨List.getElem?_eq_getElem hi, e2⟩
        rw [List.getElem?_map, ez]
        rfl
      · have big : s1.heap.objs.size ≤ h'.objs.size := by rw [hsz]; exact Nat.le_add_right _ _
        have hm0 : (h'.objs.size == sysModules) = false := beq_eq_false_iff_ne.mpr (Nat.ne_of_gt I2.big)
        have rel := zip_rel rv rv2
        have hlen2 : (mergeK [] ((ns.zip ms).map fun q => ((.inl q.1 : Key), V.int q.2))).length ≤ sizeLine := by
          refine Nat.le_trans (length_mergeK _ []) ?_
          rw [List.length_nil, Nat.zero_add, List.length_map, List.length_zip]
          rw [List.length_map] at z1
          omega
        refine ⟨.ref h'.objs.size, upd H1 h'.objs.size (.dK (mergeK [] ((ns.zip ms).map fun q => ((.inl q.1 : Key), V.int q.2)))), I1.laid (t' := tk) (fun c o e => ?_) big (show ObjOk X.prog X.w _ _ _ (.dK _) from ⟨hlen2, hm0, merged [] _, KV.merge rel .nil, hd'⟩), rfl, q _ (I1.hok.fresh big)⟩
        have lc := Heap.lt_size e
        refine hk2 c o (fun m => ?_) (hk c o e)
        rcases List.mem_cons.mp m with rfl | m
        · exact Nat.lt_irrefl _ (Nat.lt_of_le_of_lt (Nat.le_add_right _ _) lc)
        rcases List.mem_cons.mp m with rfl | m
        · exact Nat.lt_irrefl _ (Nat.lt_of_le_of_lt (Nat.le_add_right _ _) lc)
        rcases List.mem_cons.mp m with rfl | m
        · exact Nat.lt_irrefl _ lc
        · rw [List.mem_singleton.mp m] at lc
          exact Nat.lt_irrefl _ (Nat.lt_of_le_of_lt (Nat.le_add_right _ _) lc)
end
end L2

/-! sorted of data: lists of tuples; the items of a dict. -/
namespace L2
open PySem PySem.Spec PyProof.Rows
theorem each_of_paired {α β : Type} {F : α → β → Prop} : ∀ {as : List α} {bs : List β}, Paired F as bs → PySem.W.EachIs F as bs
  | _, _, .nil => .nil
  | _, _, .cons h t => .cons h (each_of_paired t)
theorem paired_of_each {α β : Type} {F : α → β → Prop} : ∀ {as : List α} {bs : List β}, PySem.W.EachIs F as bs → Paired F as bs
  | _, _, .nil => .nil
  | _, _, .cons h t => .cons h (paired_of_each t)
theorem paired_back {β : Type} {F : V → β → Prop} : ∀ {us : List Value} {bs : List β}, Paired (fun u b => F (backV u) b) us bs → Paired F (us.map backV) bs
  | _, _, .nil => .nil
  | _, _, .cons h t => .cons h (paired_back t)
theorem paired_val {β : Type} {F : V → β → Prop} : ∀ {us : List Value} {bs : List β}, Paired F (us.map backV) bs → Paired (fun u b => F (backV u) b) us bs
  | [], _, h => by cases h; exact .nil
  | _ :: us, _, h => by
    cases h with
    | cons a t => exact .cons a (paired_val t)
theorem sortVals_perm {κ : PyProof.Rows.KeyKind} {b : Bool} {vs : List Value} : (PySem.W.sortVals κ b vs vs).Perm vs := by
  unfold PySem.W.sortVals
  have h := (List.mergeSort_perm (vs.zip vs) (PySem.W.sortLe κ.toKeyOrd b fun p : Keyed => PySem.W.keyD κ p.1)).map Prod.snd
  rw [List.map_snd_zip (Nat.le_refl _)] at h
  exact h
section
variable {X : Cx}
theorem paired_reads {pins : List (Addr × Obj)} {σ : L2.St} {H : Hp} {s : Shared} {β : Type} {enc : β → PyData} (I : Inv X pins σ H s) : ∀ {us : List Value} {bs : List β}, Paired (fun u b => Dp X.K H (backV u) (enc b)) us bs → (∀ u ∈ us, ∃ a, u = Value.ref a) → Paired (fun v b => ∃ as, Reads s.heap v (enc b) as) us bs
  | _, _, .nil, _ => .nil
  | u :: us, b :: bs, .cons h t, e2 => by
    refine .cons ?_ (paired_reads I t fun u m => e2 u (List.mem_cons_of_mem _ m))
    obtain ⟨c, rfl⟩ := e2 u List.mem_cons_self
    exact Dp.reads I (enc b) (.ref c) (.ref c) h rfl
/-- sorted(xs), xs a list of tuples that compare; R is what is known of them -/
def rSortedT2 (K : PySem.W.Frag) : List V → Hp → VK → Prop := fun vs H Q => ∃ (a : Addr) (xs : List V) (β : Type) (bs : List β) (enc : β → PyData) (R : V → β → Prop), vs = [V.ref a] ∧ SqL K H a xs ∧ (∀ x ∈ xs, ∃ t, x = V.ref t) ∧
  Paired R xs bs ∧ Paired (fun x b => Dp K H x (enc b)) xs bs ∧ (∀ b b', PySem.W.alike (enc b) (enc b') = true) ∧ (∀ b, ∃ x r, enc b = .tuple (x :: r)) ∧ (∀ b, b ∈ bs → (enc b).depth ≤ 60) ∧
  ∀ ys p, ys.Perm xs → Paired R ys (bs.mergeSort (PySem.W.dataLe false enc)) → H p = none → Q (.ref p) (upd H p (.lst ys))
theorem cr_sortedT2 (hu : X.A.units + 64 < cLine) : CallR X (.builtin "sorted") (rSortedT2 X.K) := by
  intro pins s σ H vs us Q I r h
  obtain ⟨a, xs, β, bs, enc, R, rfl, hs, hx, hR, hD, al, tp, dp, q⟩ := h
  obtain ⟨its, rv, hl, hz⟩ := I.list hs
  obtain ⟨u, rfl, ru⟩ := vals1 r
  obtain rfl : u = Value.ref a := ru
  obtain ⟨e1, e2⟩ := refs_back rv hx
  have er : PySem.W.EachIs (fun v b => ∃ as, Reads s.heap v (enc b) as) its bs := by
    refine each_of_paired ?_
    rw [e1] at hD
    exact paired_reads I (paired_val hD) e2
  have eR : PySem.W.EachIs (fun v b => R (backV v) b) its bs := by
    rw [e1] at hR
    exact each_of_paired (paired_val hR)
  have er' : PySem.W.EachIs (fun v b => ∃ as, Reads (PySem.W.sortingHeap (PySem.W.copyHeap s.heap its) (s.heap.objs.size + 1) its) v (enc b) as) its bs := er.mono fun _ _ ⟨as, r⟩ => ⟨as, PyProof.Rows.Reads.keeps (fun _ _ => PySem.W.sorting_copy_old) r⟩
  have hal := PySem.W.AllAlike.of (bs := bs) al
  have dm : ∀ d, d ∈ bs.map enc → d.depth ≤ 60 := fun d m => by
    obtain ⟨b, mb, rfl⟩ := List.mem_map.mp m
    exact dp b mb
  refine PySem.W.sorted_vals hl.isList (PySem.W.SortsAt.data (s := { s with heap := PySem.W.sortingHeap (PySem.W.copyHeap s.heap its) (s.heap.objs.size + 1) its }) (PySem.W.each_map (R := fun v d => ∃ as, Reads (PySem.W.sortingHeap (PySem.W.copyHeap s.heap its) (s.heap.objs.size + 1) its) v d as) enc er') hal (PySem.W.Sortable.tuples tp) (fun d m => ?_)) (by rw [← rv.length]; exact hz) ?_
  · have := dm d m
    show X.A.units + 1 + 1 + d.depth < cLine
    omega
  · have hp : (PySem.W.sortVals (PySem.W.dataKind (PySem.W.sortingHeap (PySem.W.copyHeap s.heap its) (s.heap.objs.size + 1) its) (bs.map enc)) false its its).Perm its := sortVals_perm
    have hb := paired_back (paired_of_each (PySem.W.sortVals_data (h' := PySem.W.sortingHeap (PySem.W.copyHeap s.heap its) (s.heap.objs.size + 1) its) false eR er' hal))
    generalize PySem.W.sortVals (PySem.W.dataKind (PySem.W.sortingHeap (PySem.W.copyHeap s.heap its) (s.heap.objs.size + 1) its) (bs.map enc)) false its its = out at hp hb ⊢
    have h3 : ∀ u ∈ out, ∃ a, u = Value.ref a := fun u hu => e2 u (hp.mem_iff.mp hu)
    obtain ⟨n, hn⟩ := sortedAll_at s.heap its out.toArray
    refine ⟨.ref (s.heap.objs.size + 1), upd H (s.heap.objs.size + 1) (.lst (out.map backV)), I.laid (t' := s.toks) (fun b o e => sortedAll_old e) (Nat.le_succ _) ⟨?_, out, n, vals_back h3, hn⟩, rfl, q _ _ ?_ hb (I.hok.fresh (Nat.le_succ _))⟩
    · rw [List.length_map, hp.length_eq, ← rv.length]; exact hz
    · rw [e1]; exact hp.map backV
end
end L2

/-! sorted(d.items()), a dict of ints. -/
namespace L2
open PySem PySem.Spec PyProof.Rows L2.DX
abbrev pairI (q : Int × Int) : PyData := .tuple [.int q.1, .int q.2]
def ipK (hp : List (Int × Int)) : List (Key × V) := hp.map fun q => (.inl q.1, .int q.2)
theorem refs_pair {β : Type} {R : Value → β → Prop} (h : ∀ u b, R u b → ∃ t, u = Value.ref t) : ∀ {out : List Value} {bs : List β}, Paired R out bs → ∃ ts : List Addr, out = ts.map Value.ref ∧ Paired (fun t b => R (.ref t) b) ts bs
  | _, _, .nil => ⟨[], rfl, .nil⟩
  | _, _, .cons r t => by
    obtain ⟨ts, e, p⟩ := refs_pair h t
    obtain ⟨a, rfl⟩ := h _ _ r
    exact ⟨a :: ts, by rw [e]; rfl, .cons r p⟩
theorem paired_left {α β : Type} {F : α → β → Prop} : ∀ {xs : List α} {ys : List β} {a : α}, Paired F xs ys → a ∈ xs → ∃ b, F a b
  | _, _, _, .nil, m => absurd m List.not_mem_nil
  | _, _, _, .cons r t, m => by
    rcases List.mem_cons.mp m with rfl | m
    · exact ⟨_, r⟩
    · exact paired_left t m
theorem paired_mp {α β : Type} {F G : α → β → Prop} : ∀ {xs : List α} {ys : List β}, (∀ a b, F a b → G a b) → Paired F xs ys → Paired G xs ys
  | _, _, _, .nil => .nil
  | _, _, h, .cons r t => .cons (h _ _ r) (paired_mp h t)
section
variable {X : Cx}
def rItemsK : V → List V → Hp → VK → Prop := fun x xs H Q => ∃ (a : Addr) (kvs : List (Key × V)), x = .ref a ∧ xs = [] ∧ H a = some (.dK kvs) ∧ ∀ p, H p = none → Q (.ref p) (upd H p (itemsO p a))
theorem mt_itemsK : MtR X "dict.items" rItemsK := by
  intro pins s σ H x xs v us Q I rx rxs h
  obtain ⟨a, kvs, rfl, rfl, ha, q⟩ := h
  cases rx
  cases rxs
  obtain ⟨_, hs, vs, r, o, es, ep, h1, h2, h3, _, h5, _⟩ := (show ObjOk X.prog X.w H s.heap a (.dK kvs) from I.hok a _ ha)
  refine DT.callItems (es := es) (ep := ep) hs ⟨o, h1, h2, h3⟩ ?_
  exact ⟨.ref s.heap.objs.size, upd H s.heap.objs.size (itemsO s.heap.objs.size a), I.laid (t' := s.toks) (fun b u e => Heap.get?_push_of_some _ e) (Nat.le_refl _) (itemsO_ok (Heap.get?_push_size _ rfl)), rfl, q _ (I.hok.fresh (Nat.le_refl _))⟩
def rSortedItI : List V → Hp → VK → Prop := fun vs H Q => ∃ (p a : Addr) (hp : List (Int × Int)), vs = [.ref p] ∧ H p = some (itemsO p a) ∧ H a = some (.dK (ipK hp)) ∧
  ∀ (H' : Hp) (l : Addr) (ts : List Addr), (∀ b o, H b = some o → H' b = some o) → H l = none → H' l = some (.lst (ts.map V.ref)) → Paired (fun (t : Addr) (q : Int × Int) => H' t = some (.tup [.int q.1, .int q.2])) ts (hp.mergeSort (PySem.W.dataLe false pairI)) → (∀ t ∈ ts, H t = none) → Q (.ref l) H'
theorem cr_sortedItI (hc : X.calm = true) (hu : X.A.units + 64 < cLine) : CallR X (.builtin "sorted") rSortedItI := by
  intro pins s σ H xs us Q I r h
  obtain ⟨p, a, hp, rfl, hpp, ha, q⟩ := h
  obtain rfl := Vals.ref1 r
  have view : s.heap.IsItemsView p a := (show ObjOk X.prog X.w H s.heap p (itemsO p a) from I.hok p _ hpp).1
  obtain ⟨hz, hs, vs, r, o, es, ep, h1, h2, h3, _, h5, _⟩ := (show ObjOk X.prog X.w H s.heap a (.dK (ipK hp)) from I.hok a _ ha)
  obtain ⟨vk, vv⟩ := Hx.pairs_keys r h5
  have lk : hp.length = es.toList.length := by
    have := vk.length
    rw [List.length_map, List.length_map] at this
    unfold ipK at this
    rw [List.length_map] at this
    exact this
  have zh : hp.length ≤ sizeLine := by
    unfold ipK at hz
    rw [List.length_map] at hz
    exact hz
  have hh : X.A.handled = none := I.ok.hd hc
  refine DT.sortedI (es := es) (ep := ep) hh view ⟨o, h1, h2, h3⟩ (by rw [← Array.length_toList, ← lk]; exact zh) fun h' tk as hk hlt hl hG => ?_
  rw [← Array.length_toList, ← lk] at hl
  have nd : as.Nodup := List.Pairwise.imp (fun h => Nat.ne_of_lt h) hG.rise
  have pr : ∀ (j : Nat) (b : Addr), as[j]? = some b → ∃ (q : Int × Int) (t u : Tok), hp[j]? = some q ∧ h'.get? b = some { cls := .type "tuple", data := .seq #[.int q.1 t, .int q.2 u] } := by
    intro j b hj
    obtain ⟨en, he, hg⟩ := hG.pairs j b hj
    have hjl : j < hp.length := by
      have := (List.getElem?_eq_some_iff.mp hj).1
      omega
    rw [← Array.getElem?_toList] at he
    obtain ⟨k1, f1, r1⟩ := vk.get (i := j) (x := .int hp[j].1) (by unfold ipK; rw [List.getElem?_map, List.getElem?_map, List.getElem?_eq_getElem hjl]; rfl)
    obtain ⟨k2, f2, r2⟩ := vv.get (i := j) (x := .int hp[j].2) (by unfold ipK; rw [List.getElem?_map, List.getElem?_map, List.getElem?_eq_getElem hjl]; rfl)
    rw [List.getElem?_map, he] at f1 f2
    cases f1
    cases f2
    obtain ⟨t, e1⟩ := r1
    obtain ⟨u, e2⟩ := r2
    have e1 : en.key = Value.int hp[j].1 t := e1
    have e2 : en.val = Value.int hp[j].2 u := e2
    rw [e1, e2] at hg
    exact ⟨hp[j], t, u, List.getElem?_eq_getElem hjl, hg⟩
  have hob : (h'.push { cls := .type "list", data := .seq (as.map Value.ref).toArray }).get? h'.objs.size = some (seqObj "list" (as.map Value.ref).toArray 0) := Heap.get?_push_size _ rfl
  have ka : ∀ b o, h'.get? b = some o → (h'.push { cls := .type "list", data := .seq (as.map Value.ref).toArray }).get? b = some o := fun b o e => Heap.get?_push_of_some _ e
  have ne0 : ∀ b o, h'.get? b = some o → b ≠ h'.objs.size := fun b o e => Nat.ne_of_lt (Heap.lt_size e)
  generalize hh2 : h'.push { cls := .type "list", data := .seq (as.map Value.ref).toArray } = h2 at hob ka ⊢
  let R : Value → Int × Int → Prop := fun v q => ∃ b t u, v = .ref b ∧ b ∈ as ∧ h'.get? b = some { cls := .type "tuple", data := .seq #[.int q.1 t, .int q.2 u] }
  have e0 : Paired R (as.map Value.ref) hp := by
    clear hG hob hh2 ka
    have pr2 : ∀ (L : List Addr) (hq : List (Int × Int)), L.length = hq.length → (∀ b ∈ L, b ∈ as) → (∀ (j : Nat) (b : Addr), L[j]? = some b → ∃ (q : Int × Int) (t u : Tok), hq[j]? = some q ∧ h'.get? b = some { cls := .type "tuple", data := .seq #[.int q.1 t, .int q.2 u] }) → Paired R (L.map Value.ref) hq := by
      intro L
      induction L with
      | nil =>
        intro hq e _ _
        cases hq with
        | nil => exact .nil
        | cons _ _ => cases e
      | cons b L ih =>
        intro hq e m g
        cases hq with
        | nil => cases e
        | cons q hq =>
          obtain ⟨q', t, u, e1, e2⟩ := g 0 b rfl
          cases e1
          exact .cons ⟨b, t, u, rfl, m b List.mem_cons_self, e2⟩ (ih hq (Nat.succ.inj e) (fun c mc => m c (List.mem_cons_of_mem _ mc)) fun j c hc => g (j + 1) c hc)
    exact pr2 as hp hl (fun _ m => m) pr
  have er : PySem.W.EachIs (fun v b => ∃ as, Reads h2 v (pairI b) as ∧ h'.objs.size ∉ as) (as.map Value.ref) hp := by
    refine each_of_paired (paired_mp (fun v q hR => ?_) e0)
    obtain ⟨b, t, u, rfl, _, g⟩ := hR
    exact ⟨_, Reads.tuple (ka _ _ g) rfl rfl (.cons (.int _ _) (.cons (.int _ _) .nil)), by simp⟩
  have hal := PySem.W.AllAlike.of (enc := pairI) (bs := hp) fun b b' => by simp [pairI, PySem.W.alike, PySem.W.alikeAll]
  refine PySem.W.list_sort_data (s := { s with heap := h2, toks := tk }) (enc := pairI) hob (each_of_paired e0) er hal (PySem.W.Sortable.tuples fun b => ⟨_, _, rfl⟩) zh (fun b _ => ?_) fun out ho eo => ?_
  · have e : (pairI b).depth = 1 := by simp [pairI, PyData.depth, PyData.depthAll]
    rw [e]
    show X.A.units + 1 + 1 + 1 < cLine
    omega
  · show EP X pins σ Q (.ref h'.objs.size) { s with heap := sortedHeap h2 h'.objs.size (as.map Value.ref) (List.toArray out), toks := tk }
    obtain ⟨ts, rfl, pt⟩ := refs_pair (fun u b h => let ⟨t, _, _, e, _⟩ := h; ⟨t, e⟩) (paired_of_each eo)
    have kF : ∀ b o, b ≠ h'.objs.size → h2.get? b = some o → (sortedHeap h2 h'.objs.size (as.map Value.ref) (List.toArray (ts.map Value.ref))).get? b = some o := fun b o hb e => (PyProof.Rows.sortedHeap_old hb (Heap.lt_size e)).trans e
    have kS : ∀ b o, s.heap.get? b = some o → (sortedHeap h2 h'.objs.size (as.map Value.ref) (List.toArray (ts.map Value.ref))).get? b = some o := fun b o e => kF b o (ne0 _ _ (hk b o e)) (ka _ _ (hk b o e))
    obtain ⟨eF, heF⟩ := PyProof.Rows.sortedHeap_at (vs := as.map Value.ref) (out := List.toArray (ts.map Value.ref)) hob
    have I1 : Inv X pins σ H { s with heap := sortedHeap h2 h'.objs.size (as.map Value.ref) (List.toArray (ts.map Value.ref)), toks := tk } := I.kept (t' := tk) kS
    have hn0 : H h'.objs.size = none := I.hok.fresh (Nat.le_of_lt hlt)
    have lt : ts.length = hp.length := by
      have := ho
      rw [List.length_map] at this
      exact this
    have I2 : Inv X pins σ (upd H h'.objs.size (.lst (ts.map V.ref))) { s with heap := sortedHeap h2 h'.objs.size (as.map Value.ref) (List.toArray (ts.map Value.ref)), toks := tk } :=
      I1.take (h' := sortedHeap h2 h'.objs.size (as.map Value.ref) (List.toArray (ts.map Value.ref))) (t' := tk) (fun b ob _ e => e) (I.fpOk (Nat.le_of_lt hlt) hn0) ⟨by rw [List.length_map, lt]; exact zh, ts.map Value.ref, eF, LiI.vals_refs ts, heF⟩
    have above : ∀ b ∈ as, s.heap.objs.size ≤ b ∧ H b = none := fun b hb => ⟨Nat.le_of_lt (hG.above b hb), I.hok.fresh (Nat.le_of_lt (hG.above b hb))⟩
    obtain ⟨H2, I3, g, qt⟩ := takeT (P := fun b vs => ∀ q : Int × Int, (∃ t u, h'.get? b = some { cls := .type "tuple", data := .seq #[.int q.1 t, .int q.2 u] }) → vs = [.int q.1, .int q.2]) I as _ I2 nd fun b hb => by
      obtain ⟨j, hj⟩ := List.mem_iff_getElem?.mp hb
      obtain ⟨q, t, u, hq, hg⟩ := pr j b hj
      refine ⟨(above b hb).1, ?_, [.int q.1, .int q.2], fun q2 ⟨t2, u2, g2⟩ => ?_, fun H2 => ⟨by show 2 ≤ sizeLine; decide, [.int q.1 t, .int q.2 u], .cons ⟨t, rfl⟩ (.cons ⟨u, rfl⟩ .nil), ⟨_, kF b _ (ne0 _ _ hg) (ka _ _ hg), rfl, _, rfl⟩⟩⟩
      · rw [upd_ne (ne0 _ _ hg)]
        exact (above b hb).2
      · rw [hg] at g2
        have g3 := Option.some.inj g2
        have g4 : PySem.Data.seq #[.int q.1 t, .int q.2 u] 0 = PySem.Data.seq #[.int q2.1 t2, .int q2.2 u2] 0 := congrArg Obj.data g3
        injection g4 with g5
        have g6 : [Value.int q.1 t, Value.int q.2 u] = [Value.int q2.1 t2, Value.int q2.2 u2] := congrArg Array.toList g5
        injection g6 with g7 g8
        injection g8 with g9
        injection g7 with g7
        injection g9 with g9
        rw [g7, g9]
    refine ⟨.ref h'.objs.size, H2, I3, rfl, q H2 _ ts (fun b o e => g b o (by rw [upd_ne (ne_of_none e hn0)]; exact e)) hn0 (g _ _ upd_same) (paired_mp (fun t b hR => ?_) pt) fun t ht => ?_⟩
    · obtain ⟨b', t', u', e, m, hg⟩ := hR
      cases e
      obtain ⟨vs, hv, hq⟩ := qt t m
      rw [hq, hv b ⟨t', u', hg⟩]
    · have hp2 := Paired.mapP pt fun a b h => h
      have : t ∈ as := by
        obtain ⟨b, hR⟩ := paired_left pt ht
        obtain ⟨_, _, _, e, m, _⟩ := hR
        cases e
        exact m
      exact (above t this).2
end
end L2

/-! dict(zip(xs, range(n))), xs a list of n ints. -/
namespace L2.Zr
open PySem PySem.Spec PyProof.Rows L2.Zx
section
variable {prog : Program} {w : World} {A : Around} {E : Value → Shared → Prop} {s : Shared}
theorem next_rng {it : Addr} {x left : Int} {Q : Value → Shared → Prop} (hit : IsRangeIter s.heap it x left 1) (hleft : 0 < left)
    (hQ : ∀ h', IsRangeIter h' it (x + 1) (left - 1) 1 → Heap.SameBut it s.heap h' → Q (.int x s.toks) { s with heap := h', toks := s.toks + 1 }) :
    wpAny (model prog w) A (Builtin.SmallTypes.nextOf (.ref it)) Q E s := by
  have hT : s.TypeIs (.ref it) "range_iterator" := ⟨_, hit, rfl⟩
  unfold Builtin.SmallTypes.nextOf
  refine wpAny_bind (wpAny_callSpecial?_slot (name := Str.ofString "__next__") hT F.slot_range_iterator_next
    (call_meets F.slot_range_iterator_next hT F.entry_range_iterator_next (F.args_range_iterator_next_1 _) (AutoRange.range_iterator___next___range_iterator_1 it x left 1 (by omega)) ⟨hit, ?_⟩))
  exact wpAny_pure (hQ _ (Heap.get?_update_self _ (Heap.get?_update_self _ hit rfl) rfl) ((Heap.SameBut.update ..).trans (Heap.SameBut.update ..)))
theorem item_out {z TI TO i1 i2 l1 a : Addr} {f : Bool} {oa : Obj} {k : Nat} {lo left : Int} {xs : Array Value} {x : Value} {Q : Option Value → Shared → Prop} (D : ZipApart z TI TO i1 i2 l1 l1)
    (hz : ZipF s.heap z TI TO a f) (ha : s.heap.get? a = some oa) (hTI : IsPair s.heap TI (.ref i1) (.ref i2))
    (h1 : s.heap.IsListIter i1 l1 k) (h2 : IsRangeIter s.heap i2 lo left 1) (hl1 : s.heap.IsList l1 xs) (hx : xs[k]? = some x) (hy : 0 < left)
    (hQ : ∀ h', ZipF h' z TI TO a true → h'.IsListIter i1 l1 (k + 1) → IsRangeIter h' i2 (lo + 1) (left - 1) 1 → IsPair h' s.heap.objs.size x (.int lo s.toks) →
      (∀ c o, c ≠ z → c ≠ i1 → c ≠ i2 → s.heap.get? c = some o → h'.get? c = some o) → Q (some (.ref s.heap.objs.size)) { s with heap := h', toks := s.toks + 1 }) :
    wpAny (model prog w) A (pyNext (.ref z)) Q E s := by
  have hT : s.TypeIs (.ref z) "zip" := ⟨_, hz, rfl⟩
  unfold pyNext
  refine wpAny_bind (wpAny_attempt (wpAny_callSpecial?_slot (name := Str.ofString "__next__") hT F.slot_zip_next
    (wpAny_call_entry F.slot_zip_next hT F.entry_zip_next ?_ (F.args_zip_next_1 _))))
  show wpAny _ _ (field (.ref z) 2 >>= _) _ _ _
  refine wpAny_bind (wpAny_field hz rfl (x := .bool false) rfl ?_)
  show wpAny _ _ (field (.ref z) 3 >>= _) _ _ _
  refine wpAny_bind (wpAny_field hz rfl (x := .ref TI) rfl ?_)
  refine wpAny_bind (wpAny_seqItems hTI rfl ?_)
  show wpAny _ _ (Builtin.SmallTypes.ownedTupleIsFree (.ref z) >>= _) _ _ _
  refine wpAny_bind (owned_out hz ha fun h₃ hz₃ hs₃ => ?_)
  simp only [Bool.false_eq_true, if_false]
  rw [← Array.forIn_toList]
  simp only [List.forIn_cons, List.forIn_nil]
  refine wpAny_bind ?_
  refine wpAny_bind ?_
  refine wpAny_bind (wpAny_holding ?_)
  show wpAny _ _ (Builtin.SmallTypes.nextOf (.ref i1) >>= _) _ _ _
  refine wpAny_bind (wpAny_nextOf_list_item (h1.extBut hs₃.extBut D.i1z) (hl1.extBut hs₃.extBut D.l1z) hx fun h₄ h1₄ hs₄ => wpAny_pure ?_)
  refine wpAny_pure ?_
  dsimp only
  refine wpAny_bind ?_
  refine wpAny_bind (wpAny_holding ?_)
  show wpAny _ _ (Builtin.SmallTypes.nextOf (.ref i2) >>= _) _ _ _
  have h2₄ : IsRangeIter h₄ i2 lo left 1 := hs₄.extBut _ _ D.i12.symm (hs₃.extBut _ _ D.i2z h2)
  refine wpAny_bind (next_rng (s := { s with heap := h₄ }) h2₄ hy fun h₅ h2₅ hs₅ => wpAny_pure ?_)
  refine wpAny_pure ?_
  dsimp only
  refine wpAny_pure ?_
  dsimp only
  refine wpAny_bind (wpAny_newTuple (hsz := by show 2 ≤ sizeLine; decide) ?_)
  have up : ∀ c o, c ≠ z → c ≠ i1 → c ≠ i2 → s.heap.get? c = some o → h₅.get? c = some o := fun c o c1 c2 c3 e => hs₅.extBut _ _ c3 (hs₄.extBut _ _ c2 (hs₃.extBut _ _ c1 e))
  have hsz : h₅.objs.size = s.heap.objs.size := by rw [hs₅.1, hs₄.1, hs₃.1]
  refine wpAny_pure ⟨_, rfl, wpAny_pure ?_⟩
  show Q (some (.ref h₅.objs.size)) _
  have hz₅ : ZipF h₅ z TI TO a true := hs₅.extBut _ _ D.i2z.symm (hs₄.extBut _ _ D.i1z.symm hz₃)
  have h1₅ : h₅.IsListIter i1 l1 (k + 1) := h1₄.extBut hs₅.extBut D.i12
  have hT₆ : IsPair (h₅.push { cls := .type "tuple", data := .seq #[x, .int lo s.toks] }) h₅.objs.size x (.int lo s.toks) := Heap.get?_push_size _ rfl
  rw [hsz] at hT₆ ⊢
  exact hQ _ (Heap.get?_push_of_some _ hz₅) (h1₅.at fun o e => Heap.get?_push_of_some _ e) (Heap.get?_push_of_some _ h2₅) hT₆ fun c o c1 c2 c3 e => Heap.get?_push_of_some _ (up c o c1 c2 c3 e)
theorem item_new {z TI TO i1 i2 l1 : Addr} {k : Nat} {lo left : Int} {xs : Array Value} {x a b : Value} {Q : Option Value → Shared → Prop} (D : ZipApart z TI TO i1 i2 l1 l1)
    (hz : IsZip s.heap z TI TO .none) (hTI : IsPair s.heap TI (.ref i1) (.ref i2)) (hTO : IsPair s.heap TO a b)
    (h1 : s.heap.IsListIter i1 l1 k) (h2 : IsRangeIter s.heap i2 lo left 1) (hl1 : s.heap.IsList l1 xs) (hx : xs[k]? = some x) (hy : 0 < left)
    (hQ : ∀ h', ZipF h' z TI TO s.heap.objs.size false → h'.IsListIter i1 l1 (k + 1) → IsRangeIter h' i2 (lo + 1) (left - 1) 1 → IsPair h' s.heap.objs.size x (.int lo s.toks) →
      (∀ c o, c ≠ z → c ≠ TO → c ≠ i1 → c ≠ i2 → s.heap.get? c = some o → h'.get? c = some o) → Q (some (.ref s.heap.objs.size)) { s with heap := h', toks := s.toks + 1 }) :
    wpAny (model prog w) A (pyNext (.ref z)) Q E s := by
  have hT : s.TypeIs (.ref z) "zip" := ⟨_, hz, rfl⟩
  unfold pyNext
  refine wpAny_bind (wpAny_attempt (wpAny_callSpecial?_slot (name := Str.ofString "__next__") hT F.slot_zip_next
    (wpAny_call_entry F.slot_zip_next hT F.entry_zip_next ?_ (F.args_zip_next_1 _))))
  show wpAny _ _ (field (.ref z) 2 >>= _) _ _ _
  refine wpAny_bind (wpAny_field hz rfl (x := .bool false) rfl ?_)
  show wpAny _ _ (field (.ref z) 3 >>= _) _ _ _
  refine wpAny_bind (wpAny_field hz rfl (x := .ref TI) rfl ?_)
  refine wpAny_bind (wpAny_seqItems hTI rfl ?_)
  show wpAny _ _ (Builtin.SmallTypes.ownedTupleIsFree (.ref z) >>= _) _ _ _
  refine wpAny_bind ?_
  unfold Builtin.SmallTypes.ownedTupleIsFree
  refine wpAny_bind (wpAny_field hz rfl (x := .none) rfl (wpAny_pure ?_))
  simp only [if_true]
  refine wpAny_bind (wpAny_rule ?_)
  refine wpAny_bind (wpAny_field hz rfl (x := .ref TO) rfl ?_)
  refine wpAny_bind (wpAny_setField_rec hz (by simp) fun g₁ hz₁ hs₁ => ?_)
  replace hz₁ : IsZip g₁ z TI TO .ellipsis := hz₁
  refine wpAny_bind ?_
  simp only [List.zipIdx_cons, List.zipIdx_nil, List.forIn_cons, List.forIn_nil]
  refine wpAny_bind (wpAny_bind (wpAny_onRaise ?_))
  show wpAny _ _ (Builtin.SmallTypes.nextOf (.ref i1) >>= _) _ _ _
  refine wpAny_bind (wpAny_nextOf_list_item (h1.extBut hs₁.extBut D.i1z) (hl1.extBut hs₁.extBut D.l1z) hx fun g₂ h1₂ hs₂ => wpAny_pure ?_)
  have hTO₂ : IsPair g₂ TO a b := hs₂.extBut _ _ D.TOi1 (hs₁.extBut _ _ D.TOz hTO)
  refine wpAny_bind (wpAny_seqItems hTO₂ rfl ?_)
  refine wpAny_bind (wpAny_updateSeq_pair hTO₂ fun g₃ hTO₃ hs₃ => ?_)
  replace hTO₃ : IsPair g₃ TO x b := hTO₃
  refine wpAny_bind (wpAny_letGo (wpAny_pure ?_))
  refine wpAny_bind (wpAny_bind (wpAny_onRaise ?_))
  show wpAny _ _ (Builtin.SmallTypes.nextOf (.ref i2) >>= _) _ _ _
  have h2₃ : IsRangeIter g₃ i2 lo left 1 := hs₃.extBut _ _ D.TOi2.symm (hs₂.extBut _ _ D.i12.symm (hs₁.extBut _ _ D.i2z h2))
  refine wpAny_bind (next_rng (s := { s with heap := g₃ }) h2₃ hy fun g₄ h2₄ hs₄ => wpAny_pure ?_)
  have hTO₄ : IsPair g₄ TO x b := hs₄.extBut _ _ D.TOi2 hTO₃
  refine wpAny_bind (wpAny_seqItems hTO₄ rfl ?_)
  refine wpAny_bind (wpAny_updateSeq_pair (s := { s with heap := g₄, toks := s.toks + 1 }) hTO₄ fun g₅ hTO₅ hs₅ => ?_)
  replace hTO₅ : IsPair g₅ TO x (.int lo s.toks) := hTO₅
  refine wpAny_bind (wpAny_letGo (wpAny_pure (wpAny_pure ?_)))
  refine wpAny_bind (wpAny_seqItems hTO₅ rfl ?_)
  refine wpAny_bind (wpAny_newTuple ?_)
  have hsz : g₅.objs.size = s.heap.objs.size := by rw [hs₅.1, hs₄.1, hs₃.1, hs₂.1, hs₁.1]
  have hz₅ : IsZip g₅ z TI TO .ellipsis := hs₅.extBut _ _ D.TOz.symm (hs₄.extBut _ _ D.i2z.symm (hs₃.extBut _ _ D.TOz.symm (hs₂.extBut _ _ D.i1z.symm hz₁)))
  have up : ∀ c o, c ≠ z → c ≠ TO → c ≠ i1 → c ≠ i2 → s.heap.get? c = some o → g₅.get? c = some o := fun c o c1 c2 c3 c4 e => hs₅.extBut _ _ c2 (hs₄.extBut _ _ c4 (hs₃.extBut _ _ c2 (hs₂.extBut _ _ c3 (hs₁.extBut _ _ c1 e))))
  have h1₅ : g₅.IsListIter i1 l1 (k + 1) := ((h1₂.extBut hs₃.extBut D.TOi1.symm).extBut hs₄.extBut D.i12).extBut hs₅.extBut D.TOi1.symm
  have h2₅ : IsRangeIter g₅ i2 (lo + 1) (left - 1) 1 := hs₅.extBut _ _ D.TOi2.symm h2₄
  have zlt : z < g₅.objs.size := Heap.lt_size hz₅
  show wpAny _ _ (Builtin.SmallTypes.ownedTupleHandOut (.ref z) (.ref g₅.objs.size) >>= _) _ _ _
  refine wpAny_bind ?_
  unfold Builtin.SmallTypes.ownedTupleHandOut
  have hz₆ : IsZip (g₅.push { cls := .type "tuple", data := .seq #[x, .int lo s.toks] }) z TI TO .ellipsis := Heap.get?_push_of_some _ hz₅
  refine wpAny_bind (wpAny_setField_rec hz₆ (by simp) fun g₇ hz₇ hs₇ => ?_)
  replace hz₇ : IsZip g₇ z TI TO (rawInt g₅.objs.size) := hz₇
  refine wpAny_setField_rec hz₇ (by simp) fun g₈ hz₈ hs₈ => ?_
  replace hz₈ : ZipF g₈ z TI TO g₅.objs.size false := hz₈
  have up2 : ∀ c o, c ≠ z → g₅.get? c = some o → g₈.get? c = some o := fun c o c1 e => hs₈.extBut _ _ c1 (hs₇.extBut _ _ c1 (Heap.get?_push_of_some _ e))
  have hT₈ : IsPair g₈ g₅.objs.size x (.int lo s.toks) := hs₈.extBut _ _ (Nat.ne_of_gt zlt) (hs₇.extBut _ _ (Nat.ne_of_gt zlt) (Heap.get?_push_size _ rfl))
  rw [hsz] at hz₈ hT₈
  refine wpAny_pure ⟨_, rfl, wpAny_pure ?_⟩
  show Q (some (.ref g₅.objs.size)) _
  rw [hsz]
  exact hQ g₈ hz₈ (h1₅.at fun o e => up2 _ o D.i1z e) (up2 _ _ D.i2z h2₅) hT₈ fun c o c1 c2 c3 c4 e => up2 c o c1 (up c o c1 c2 c3 c4 e)
end
section
variable {prog : Program} {w : World}
theorem arg (z TI TO i1 i2 l1 : Addr) (D : ZipApart z TI TO i1 i2 l1 l1) (xs : Array Value) (n : Nat) (hn : xs.size = n) (h0 : 0 < n) :
    PairArg prog w "zip" z [z, TI, TO, i1, i2, l1] [z, TO, i1, i2] n (fun i k v => xs[i]? = some k ∧ ∃ t, v = .int (i : Int) t)
      (fun h => IsZip h z TI TO .none ∧ IsPair h TI (.ref i1) (.ref i2) ∧ (∃ a b, IsPair h TO a b) ∧ h.IsListIter i1 l1 0 ∧ IsRangeIter h i2 0 n 1 ∧ h.IsList l1 xs) where
  type := fun s ok => ⟨_, ok.1, rfl⟩
  notDict := by decide
  keep := fun h h' ok hk => by
    obtain ⟨hz, hTI, ⟨a, b, hTO⟩, h1, h2, hl1⟩ := ok
    exact ⟨hk _ _ hz, hk _ _ hTI, ⟨a, b, hk _ _ hTO⟩, h1.at fun o e => hk _ o e, hk _ _ h2, hl1.at fun o e => hk _ o e⟩
  there := fun h ok b hb => by
    obtain ⟨hz, hTI, ⟨a, c, hTO⟩, ⟨o1, h1, _⟩, h2, ⟨o3, hl1, _⟩⟩ := ok
    simp only [List.mem_cons, List.not_mem_nil, or_false] at hb
    rcases hb with rfl | rfl | rfl | rfl | rfl | rfl
    all_goals first | exact ⟨_, hz⟩ | exact ⟨_, hTI⟩ | exact ⟨_, hTO⟩ | exact ⟨_, h1⟩ | exact ⟨_, h2⟩ | exact ⟨_, hl1⟩
  sub := fun b hb => by simp at hb ⊢; rcases hb with rfl | rfl | rfl | rfl <;> simp
  noKeys := fun A s Q E hA ok h => getAttrOr_miss_zip ok.1 rfl rfl rfl zip_no_keys (by decide +kernel) hA h
  iter := fun A s d Q E hA ok hd hdf h => by
    obtain ⟨hz, hTI, ⟨a, b, hTO⟩, h1, h2, hl1⟩ := ok
    simp only [List.mem_cons, List.not_mem_nil, or_false, not_or] at hdf
    obtain ⟨dz, dTI, dTO, di1, di2, dl1⟩ := hdf
    refine wpAny_pyIter_zip hz (h z [z, TO, i1, i2] (fun i h => IsPair h TI (.ref i1) (.ref i2) ∧ h.IsListIter i1 l1 i ∧ IsRangeIter h i2 i ((n : Int) - i) 1 ∧ h.IsList l1 xs ∧
      ((i = 0 ∧ IsZip h z TI TO .none ∧ ∃ a b, IsPair h TO a b) ∨ (0 < i ∧ ∃ T f oT, ZipF h z TI TO T f ∧ h.get? T = some oT ∧ T ≠ z ∧ T ≠ i1 ∧ T ≠ i2 ∧ T ≠ d))) s.heap s.toks ?_
      ⟨hTI, h1, by simpa using h2, hl1, .inl ⟨rfl, hz, a, b, hTO⟩⟩ (fun _ _ e => e) fun b hb => .inl hb)
    exact {
      off := fun hm => by
        simp only [List.mem_cons, List.not_mem_nil, or_false] at hm
        rcases hm with e | e | e | e
        · exact dz e
        · exact dTO e
        · exact di1 e
        · exact di2 e
      frame := fun i g g' st hk => by
        obtain ⟨hTI, h1, h2, hl1, hz⟩ := st
        refine ⟨hk _ _ (Ne.symm dTI) hTI, h1.at fun o e => hk _ o (Ne.symm di1) e, hk _ _ (Ne.symm di2) h2, hl1.at fun o e => hk _ o (Ne.symm dl1) e, ?_⟩
        rcases hz with ⟨i0, hz, a, b, hTO⟩ | ⟨i0, T, f, oT, hz, hT, r1, r2, r3, r4⟩
        · exact .inl ⟨i0, hk _ _ (Ne.symm dz) hz, a, b, hk _ _ (Ne.symm dTO) hTO⟩
        · exact .inr ⟨i0, T, f, oT, hk _ _ (Ne.symm dz) hz, hk _ _ r4 hT, r1, r2, r3, r4⟩
      item := fun i s₁ Q₁ E₁ hi st hds hQ => by
        obtain ⟨hTI, h1, h2, hl1, hz⟩ := st
        have ex := Array.getElem?_eq_getElem (xs := xs) (i := i) (by omega)
        have lt : ∀ {c o}, s₁.heap.get? c = some o → s₁.heap.objs.size ≠ c := fun e => Nat.ne_of_gt (Heap.lt_size e)
        have n1 : s₁.heap.objs.size ≠ i1 := let ⟨_, e, _⟩ := h1; lt e
        have n2 : s₁.heap.objs.size ≠ i2 := lt h2
        have e1 : ((i : Int) + 1) = ((i + 1 : Nat) : Int) := by omega
        have e2 : (n : Int) - i - 1 = (n : Int) - ((i + 1 : Nat) : Int) := by omega
        rcases hz with ⟨i0, hz, a, b, hTO⟩ | ⟨i0, T, f, oT, hz, hT, r1, r2, r3, r4⟩
        · refine item_new D hz hTI hTO h1 h2 hl1 ex (by omega) fun g a1 a3 a4 a5 hk => ?_
          rw [e1, e2] at a4
          exact hQ s₁.heap.objs.size _ _ g _ ⟨ex, _, rfl⟩ (.inl ⟨_, a5, rfl, _, rfl⟩)
            ⟨hk _ _ D.TIz D.TITO D.TIi1 D.TIi2 hTI, a3, a4, hl1.at fun o e => hk _ o D.l1z D.l1TO D.l1i1 D.l1i2 e, .inr ⟨Nat.succ_pos i, s₁.heap.objs.size, false, _, a1, a5, lt hz, n1, n2, Nat.ne_of_gt hds⟩⟩
            fun c o hc e => hk c o (fun x => hc (by simp [x])) (fun x => hc (by simp [x])) (fun x => hc (by simp [x])) (fun x => hc (by simp [x])) e
        · refine item_out D hz hT hTI h1 h2 hl1 ex (by omega) fun g a1 a3 a4 a5 hk => ?_
          rw [e1, e2] at a4
          exact hQ s₁.heap.objs.size _ _ g _ ⟨ex, _, rfl⟩ (.inl ⟨_, a5, rfl, _, rfl⟩)
            ⟨hk _ _ D.TIz D.TIi1 D.TIi2 hTI, a3, a4, hl1.at fun o e => hk _ o D.l1z D.l1i1 D.l1i2 e, .inr ⟨Nat.succ_pos i, T, true, oT, a1, hk _ _ r1 r2 r3 hT, r1, r2, r3, r4⟩⟩
            fun c o hc e => hk c o (fun x => hc (by simp [x])) (fun x => hc (by simp [x])) (fun x => hc (by simp [x])) e
      done := fun s₁ Q₁ E₁ st hQ => by
        obtain ⟨hTI, h1, h2, hl1, hz⟩ := st
        rcases hz with ⟨i0, _⟩ | ⟨i0, T, f, oT, hz, hT, r1, r2, r3, r4⟩
        · omega
        · exact end_out hA D hz hT hTI h1 hl1 (Array.getElem?_eq_none (by omega)) fun g hk => hQ g s₁.toks fun c o hc e => hk c o (fun x => hc (by simp [x])) (fun x => hc (by simp [x])) e }
end
end L2.Zr

/-! zip(xs, range(n)) is made; dict of it. -/
namespace L2.Zr
open PySem PySem.Spec PyProof.Rows L2.Zx
abbrev g1 (h : Heap) (l1 : Addr) : Heap := h.push { cls := .type "list_iterator", data := .fields #[.ref l1, .int 0 0] }
abbrev g2 (h : Heap) (l1 : Addr) (n : Int) : Heap := (g1 h l1).push { cls := .type "range_iterator", data := .fields #[rawInt 0, rawInt n, rawInt 1] }
abbrev g3 (h : Heap) (l1 : Addr) (n : Int) : Heap := (g2 h l1 n).push { cls := .type "tuple", data := .seq #[.ref h.objs.size, .ref (g1 h l1).objs.size] }
abbrev g4 (h : Heap) (l1 : Addr) (n : Int) : Heap := (g3 h l1 n).push { cls := .type "tuple", data := .seq #[.none, .none] }
abbrev g5 (h : Heap) (l1 : Addr) (n : Int) : Heap := (g4 h l1 n).push { cls := .type "zip", data := .fields #[.none, .bool false, .bool false, .ref (g2 h l1 n).objs.size, .ref (g3 h l1 n).objs.size] }
theorem zip_made (l1 r : Addr) (xs : Array Value) (n : Int) (t u v : Tok) (hs : Builtin.Range.small 0 n 1 = true) (hz : Builtin.Range.rangeSize 0 n 1 = n) :
    Meets (Builtin.«zip.__new__» ⟨[.type "zip", .ref l1, .ref r], []⟩) (fun _ R s => s.heap.IsList l1 xs ∧ IsRange s.heap r 0 n 1 t u v ∧
      R (.ok (.ret (.ref (g4 s.heap l1 n).objs.size))) { s with heap := g5 s.heap l1 n }) :=
  .of_wp fun prog w A R s h => by
    obtain ⟨hp, g, d, tk, os⟩ := s; obtain ⟨hl1, hr, h⟩ := h
    have hsub := sub_zip
    have hL1 : Heap.IsList (Shared.heap ⟨hp, g, d, tk, os⟩) l1 xs := hl1
    have hR : IsRange (Shared.heap ⟨hp.push { cls := .type "list_iterator", data := .fields #[.ref l1, .int 0 0] }, g, d, tk, os⟩) r 0 n 1 t u v := Heap.get?_push_of_some _ hr
    wp_walk using wpAny_pyIter_list hL1, wpAny_pyIter_range hR hs
    rw [hz]
    exact ⟨_, rfl, h⟩
section
variable {prog : Program} {w : World} {A : Around} {E : Value → Shared → Prop} {s : Shared}
theorem call_zip_rng {l1 r : Addr} {xs : Array Value} {n : Int} {t u v : Tok} {Q : Value → Shared → Prop} (hl1 : s.heap.IsList l1 xs) (hr : IsRange s.heap r 0 n 1 t u v) (hs : Builtin.Range.small 0 n 1 = true) (hz : Builtin.Range.rangeSize 0 n 1 = n)
    (h : ∀ h', IsZip h' (s.heap.objs.size + 4) (s.heap.objs.size + 2) (s.heap.objs.size + 3) .none → IsPair h' (s.heap.objs.size + 2) (.ref s.heap.objs.size) (.ref (s.heap.objs.size + 1)) →
      IsPair h' (s.heap.objs.size + 3) .none .none → h'.IsListIter s.heap.objs.size l1 0 → IsRangeIter h' (s.heap.objs.size + 1) 0 n 1 → h'.objs.size = s.heap.objs.size + 5 →
      (∀ c o, s.heap.get? c = some o → h'.get? c = some o) → Q (.ref (s.heap.objs.size + 4)) { s with heap := h' }) :
    wpAny (model prog w) A (call (.type "zip") [.ref l1, .ref r]) Q E s := by
  refine callType_new F.called_zip (by decide) (F.typeCall_zip_2 _ _) (F.newCall_zip_2 _ _) (fun obj => F.args_object_init_3 obj _ _) F.entry_zip_new (zip_made l1 r xs n t u v hs hz) ⟨hl1, hr, ?_⟩
  have z1 : (g1 s.heap l1).objs.size = s.heap.objs.size + 1 := Heap.size_push ..
  have z2 : (g2 s.heap l1 n).objs.size = s.heap.objs.size + 2 := by rw [Heap.size_push, z1]
  have z3 : (g3 s.heap l1 n).objs.size = s.heap.objs.size + 3 := by rw [Heap.size_push, z2]
  have z4 : (g4 s.heap l1 n).objs.size = s.heap.objs.size + 4 := by rw [Heap.size_push, z3]
  have z5 : (g5 s.heap l1 n).objs.size = s.heap.objs.size + 5 := by rw [Heap.size_push, z4]
  have e5 : (g5 s.heap l1 n).get? (g4 s.heap l1 n).objs.size = some _ := Heap.get?_push_size _ rfl
  have e4 : (g5 s.heap l1 n).get? (g3 s.heap l1 n).objs.size = some _ := Heap.get?_push_of_some _ (Heap.get?_push_size _ rfl)
  have e3 : (g5 s.heap l1 n).get? (g2 s.heap l1 n).objs.size = some _ := Heap.get?_push_of_some _ (Heap.get?_push_of_some _ (Heap.get?_push_size _ rfl))
  have e2 : (g5 s.heap l1 n).get? (g1 s.heap l1).objs.size = some _ := Heap.get?_push_of_some _ (Heap.get?_push_of_some _ (Heap.get?_push_of_some _ (Heap.get?_push_size _ rfl)))
  have e1 : (g5 s.heap l1 n).get? s.heap.objs.size = some _ := Heap.get?_push_of_some _ (Heap.get?_push_of_some _ (Heap.get?_push_of_some _ (Heap.get?_push_of_some _ (Heap.get?_push_size _ rfl))))
  show _ ∧ _
  rw [z2, z3, z4] at e5
  rw [z1, z2] at e3
  rw [z3] at e4
  rw [z1] at e2
  rw [z4]
  exact ⟨⟨_, e5, rfl⟩, h _ e5 e3 e4 ⟨_, e1, rfl, rfl⟩ e2 z5 fun c o x => Heap.get?_push_of_some _ (Heap.get?_push_of_some _ (Heap.get?_push_of_some _ (Heap.get?_push_of_some _ (Heap.get?_push_of_some _ x))))⟩
end
def rows (ns : List Int) (vs : List Value) : List (Key × Value) := (ns.zip vs).map fun q => (.inl q.1, q.2)
theorem rows_len (ns : List Int) (vs : List Value) : (rows ns vs).length ≤ vs.length := by
  unfold rows
  rw [List.length_map, List.length_zip]
  exact Nat.min_le_right _ _
theorem rows_snoc : ∀ {ns : List Int} {vs : List Value} {n : Int} {v : Value}, ns[vs.length]? = some n → rows ns (vs ++ [v]) = rows ns vs ++ [(.inl n, v)]
  | [], _, _, _, h => by cases h
  | m :: ns, [], n, v, h => by
    cases h
    show rows (m :: ns) [v] = [(.inl m, v)]
    unfold rows
    rw [List.zip_cons_cons, List.zip_nil_right]
    rfl
  | m :: ns, u :: vs, n, v, h => by
    have ih := rows_snoc (ns := ns) (vs := vs) (n := n) (v := v) (by simpa using h)
    show rows (m :: ns) (u :: (vs ++ [v])) = _
    unfold rows at ih ⊢
    rw [List.zip_cons_cons, List.map_cons, ih, List.zip_cons_cons, List.map_cons]
    rfl
theorem rows_rel : ∀ {ns : List Int} {k : Nat} (vs : List Value), vs.length = ns.length → (∀ (j : Nat) (v : Value), vs[j]? = some v → ∃ t, v = Value.int ((k + j : Nat) : Int) t) → KV ((ns.zipIdx k).map fun q => ((.inl q.1 : Key), V.int (q.2 : Int))) (rows ns vs)
  | [], _, vs, _, _ => by
    unfold rows
    rw [List.zip_nil_left]
    exact .nil
  | n :: ns, k, [], e, _ => by cases e
  | n :: ns, k, v :: vs, e, h => by
    obtain ⟨t, ht⟩ := h 0 v rfl
    rw [List.zipIdx_cons, List.map_cons]
    have ih := rows_rel (ns := ns) (k := k + 1) vs (Nat.succ.inj e) fun j u hj => by
      obtain ⟨t, e⟩ := h (j + 1) u hj
      exact ⟨t, by rw [e]; congr 2; omega⟩
    unfold rows at ih ⊢
    rw [List.zip_cons_cons, List.map_cons]
    exact .cons ⟨rfl, t, by rw [ht]; rfl⟩ ih
end L2.Zr
namespace L2
open PySem PySem.Spec PyProof.Rows
section
variable {X : Cx}
/-- range(n) as a value -/
def rRng1 : List V → Hp → VK → Prop := fun vs H Q => ∃ n : Int, vs = [.int n] ∧ ∀ p, H p = none → Q (.ref p) (upd H p (.rng 0 n))
theorem cr_rng1 : CallR X (.type "range") rRng1 := by
  intro pins s σ H vs us Q I r h
  obtain ⟨n, rfl, q⟩ := h
  obtain ⟨u, rfl, ru⟩ := vals1 r
  obtain ⟨t, rfl⟩ := ru
  refine call_range_1 ⟨.ref s.heap.objs.size, upd H s.heap.objs.size (.rng 0 n), I.laid (t' := _) (fun b o e => Heap.get?_push_of_some _ e) (Nat.le_refl _) ?_, rfl, q _ (I.hok.fresh (Nat.le_refl _))⟩
  exact ⟨_, _, _, Heap.get?_push_size _ rfl⟩
/-- dict(zip(xs, range(n))), xs n ints -/
def rDictZipR (K : PySem.W.Frag) : List V → Hp → VK → Prop := fun zs H Q => ∃ (a b : Addr) (ns : List Int), zs = [.ref a, .ref b] ∧ SqL K H a (ns.map V.int) ∧ H b = some (.rng 0 (ns.length : Int)) ∧ 0 < ns.length ∧ ns.length ≤ 1000000 ∧
  ∀ p, H p = none → Q (.ref p) (upd H p (.dK (mergeK [] (ns.zipIdx.map fun q => ((.inl q.1 : Key), V.int (q.2 : Int))))))
def tDictZipR (K : PySem.W.Frag) (ta : TA) : TE := fun σ H Q => ta σ H fun zs H1 => rDictZipR K zs H1 Q
theorem pe_dictZipR {e e2 : Expr} {ta : TA} {p pz pz2 pos : Pos} (hc : X.calm = true) (hg : Gl X "dict") (hm : X.mg "dict" = none) (hgz : Gl X "zip") (hmz : X.mg "zip" = none) (ha : PA X [e, e2] ta) (hv : bootBuiltins "dict" = some (.type "dict") := by rfl)
    (hs : starEach [e, e2] X.env = (false, eval e X.env) :: starEach [e2] X.env := by rfl) (hpl : (backTo pz2 (starEach [e2] X.env)).any (·.1) = false := by rfl)
    (hs1 : starEach [.Call (.Name "zip" pz) [e, e2] [] pz2] X.env = (false, eval (.Call (.Name "zip" pz) [e, e2] [] pz2) X.env) :: starEach [] X.env := by rfl) :
    PE X (.Call (.Name "dict" p) [.Call (.Name "zip" pz) [e, e2] [] pz2] [] pos) (tDictZipR X.K ta) := by
  refine ⟨fun pins s σ H Q I hq => ?_⟩
  refine wpAny_Call_Name_kw (ld_blt I hg hm hv ?_)
  refine PyProof.Rows.callWith_type1 ?_ hs1 rfl
  rw [hs1]
  show wpAny _ _ (spliced ((false, eval (.Call (.Name "zip" pz) [e, e2] [] pz2) X.env) :: backTo pos (starEach [] X.env))) _ _ s
  refine Calls.spliced_cons ?_
  refine Call_ (ld_blt I hgz hmz PyProof.Rows.boot_zip (PyProof.Rows.callWith_type1 (thn (ha.run pz2 pins s σ H _ I hq) fun us s1 ⟨vs, H1, I1, r1, q1⟩ => ?_) hs hpl))
  obtain ⟨a, b, ns, ex, hqx, hqy, h0, hlen, q⟩ := q1
  subst ex
  cases r1 with
  | cons r rr =>
    cases rr with
    | cons r' rr =>
      cases rr
      cases r
      cases r'
      obtain ⟨its, rv, p1, z1⟩ := I1.list hqx
      obtain ⟨t, u, v, hr⟩ := (show ObjOk X.prog X.w H1 s1.heap b (.rng 0 (ns.length : Int)) from I1.hok b _ hqy)
      have la : a < s1.heap.objs.size := p1.lt
      have n1 := rv.length
      rw [List.length_map] at n1
      have hrs : Builtin.Range.rangeSize 0 (ns.length : Int) 1 = (ns.length : Int) := by
        rw [rangeSize_nat]
        omega
      refine Zr.call_zip_rng p1.isList hr (small_one (by omega) (by omega) (by omega) (by omega)) hrs fun h' hz hTI hTO h1 h2 hsz hk => ?_
      refine Calls.spliced_nil ?_
      have I2 : Inv X pins σ H1 { s1 with heap := h' } := I1.kept (t' := s1.toks) hk
      have D : ZipApart (s1.heap.objs.size + 4) (s1.heap.objs.size + 2) (s1.heap.objs.size + 3) s1.heap.objs.size (s1.heap.objs.size + 1) a a := PySem.W.ktu_apart s1.heap.objs.size a a la la
      have ez : its.toArray.size = ns.length := by rw [List.size_toArray]; exact n1.symm
      have ok0 : IsZip h' (s1.heap.objs.size + 4) (s1.heap.objs.size + 2) (s1.heap.objs.size + 3) .none ∧ IsPair h' (s1.heap.objs.size + 2) (.ref s1.heap.objs.size) (.ref (s1.heap.objs.size + 1)) ∧ (∃ a b, IsPair h' (s1.heap.objs.size + 3) a b) ∧ h'.IsListIter s1.heap.objs.size a 0 ∧ IsRangeIter h' (s1.heap.objs.size + 1) 0 ns.length 1 ∧ h'.IsList a its.toArray :=
        ⟨hz, hTI, ⟨_, _, hTO⟩, h1, h2, p1.isList.at fun o e => hk _ o e⟩
      have P0 := Zr.arg (prog := X.prog) (w := X.w) (s1.heap.objs.size + 4) (s1.heap.objs.size + 2) (s1.heap.objs.size + 3) s1.heap.objs.size (s1.heap.objs.size + 1) a D its.toArray ns.length ez h0
      refine PySem.call_dict_arg (s := { s1 with heap := h' }) P0 ok0 fun s₁ hs₁ hdf ok₁ => ?_
      subst hs₁
      have hzl : ns.length ≤ sizeLine := by
        rw [List.length_map] at z1
        exact z1
      refine PySem.updateFrom_arg (A := X.A.in1) (Tab := fun i h => ∃ vs : List Value, vs.length = i ∧ (∀ (j : Nat) (v : Value), vs[j]? = some v → ∃ t, v = Value.int (j : Int) t) ∧ h.DictOf (mixKind X.prog X.w) h'.objs.size (merged [] (Zr.rows ns vs))) P0 .none (I2.ok.hd hc) ok₁ hdf ⟨[], rfl, fun j v e => (by cases e), by rw [show Zr.rows ns [] = [] by unfold Zr.rows; rw [List.zip_nil_right]; rfl]; exact Heap.DictOf.new h'⟩ (fun _ _ ⟨_, _, _, tb⟩ => tb.lt_size)
        (fun i h g wr' hd _ ⟨vs, e1, e2, tb⟩ hk => ⟨vs, e1, e2, tb.at' fun o e => hk _ o hd e⟩) ?_ ?_
      · intro i key v s' Q' E' hi hrel ⟨vs, e1, e2, tb⟩ _ hQ
        obtain ⟨ek, t, rfl⟩ := hrel
        rw [List.getElem?_toArray] at ek
        obtain ⟨u, f1, f2⟩ := rv.get (i := i) (x := .int ns[i]) (by rw [List.getElem?_map, List.getElem?_eq_getElem hi]; rfl)
        rw [ek] at f1
        cases f1
        obtain ⟨t2, rfl⟩ := f2
        have hl : (merged [] (Zr.rows ns vs)).length ≤ vs.length := by
          refine Nat.le_trans (merged_length [] (Zr.rows ns vs)) ?_
          rw [List.length_nil, Nat.zero_add]
          exact Zr.rows_len ns vs
        refine wpAny_dictSet_pairs (hsz := by omega) (show (mixKind X.prog X.w).is (.inl ns[i]) (.int ns[i] t2) = true from keyIs_int _ t2) tb fun g hm' hs => ?_
        refine hQ g _ ⟨vs ++ [.int (i : Int) t], by rw [List.length_append, e1]; rfl, fun j v e => ?_, ?_⟩ hs
        · rcases Nat.lt_trichotomy j vs.length with h | h | h
          · rw [List.getElem?_append_left h] at e
            exact e2 j v e
          · subst h
            rw [List.getElem?_append_right (Nat.le_refl _), Nat.sub_self] at e
            cases e
            exact ⟨t, by rw [e1]⟩
          · rw [List.getElem?_eq_none (by rw [List.length_append, List.length_singleton]; omega)] at e
            cases e
        · rw [Zr.rows_snoc (n := ns[i]) (by rw [e1]; exact List.getElem?_eq_getElem hi)]
          unfold merged at hm' ⊢
          rw [List.foldl_append]
          exact hm'
      · rintro g tk ⟨vs, e1, e2, tb⟩ hk2
        refine ⟨rfl, ?_⟩
        have big : s1.heap.objs.size ≤ h'.objs.size := by rw [hsz]; exact Nat.le_add_right _ _
        have hm0 : (h'.objs.size == sysModules) = false := beq_eq_false_iff_ne.mpr (Nat.ne_of_gt I2.big)
        have rel := Zr.rows_rel (ns := ns) (k := 0) vs e1 (fun j v e => by obtain ⟨t, e⟩ := e2 j v e; exact ⟨t, by rw [Nat.zero_add]; exact e⟩)
        have hlen2 : (mergeK [] (ns.zipIdx.map fun q => ((.inl q.1 : Key), V.int (q.2 : Int)))).length ≤ sizeLine := by
          refine Nat.le_trans (length_mergeK _ []) ?_
          rw [List.length_nil, Nat.zero_add, List.length_map, List.length_zipIdx]
          exact hzl
        refine ⟨.ref h'.objs.size, upd H1 h'.objs.size (.dK (mergeK [] (ns.zipIdx.map fun q => ((.inl q.1 : Key), V.int (q.2 : Int))))), I1.laid (t' := tk) (fun c o e => ?_) big (show ObjOk X.prog X.w _ _ _ (.dK _) from ⟨hlen2, hm0, merged [] _, KV.merge rel .nil, tb⟩), rfl, q _ (I1.hok.fresh big)⟩
        have lc := Heap.lt_size e
        refine hk2 c o (fun m => ?_) (fun m => ?_) (Heap.get?_push_of_some _ (hk c o e))
        · rw [m, show ({ s1 with heap := h' } : Shared).heap.objs.size = s1.heap.objs.size + 5 from hsz] at lc
          exact Nat.lt_irrefl _ (Nat.lt_of_le_of_lt (Nat.le_add_right _ _) lc)
        · simp only [List.mem_cons, List.not_mem_nil, or_false] at m
          rcases m with rfl | rfl | rfl | rfl
          · exact Nat.lt_irrefl _ (Nat.lt_of_le_of_lt (Nat.le_add_right _ _) lc)
          · exact Nat.lt_irrefl _ (Nat.lt_of_le_of_lt (Nat.le_add_right _ _) lc)
          · exact Nat.lt_irrefl _ lc
          · exact Nat.lt_irrefl _ (Nat.lt_of_le_of_lt (Nat.le_add_right _ _) lc)
end
end L2

/-! Dicts as lists of pairs; a comprehension over a dict's keys. -/
namespace L2.Hx
open PySem PySem.Spec PyProof.Rows
section
variable {κ α : Type} [DecidableEq κ]
def kvK (ι : κ → Key) (f : α → V) (l : List (κ × α)) : List (Key × V) := l.map fun q => (ι q.1, f q.2)
def keysA (l : List (κ × α)) : List κ := l.map Prod.fst
def putA (l : List (κ × α)) (k : κ) (v : α) : List (κ × α) := if k ∈ keysA l then l.map (fun q => if q.1 = k then (q.1, v) else q) else l ++ [(k, v)]
def getA (l : List (κ × α)) (k : κ) : Option α := (l.find? fun q => decide (q.1 = k)).map Prod.snd
theorem getA_nil (k : κ) : getA ([] : List (κ × α)) k = none := rfl
theorem getA_pos {q : κ × α} {l : List (κ × α)} {k : κ} (h : q.1 = k) : getA (q :: l) k = some q.2 := by simp [getA, List.find?_cons, h]
theorem getA_neg {q : κ × α} {l : List (κ × α)} {k : κ} (h : ¬ q.1 = k) : getA (q :: l) k = getA l k := by simp [getA, List.find?_cons, h]
theorem getA_out : ∀ {l : List (κ × α)} {k : κ}, ¬ k ∈ keysA l → getA l k = none
  | [], _, _ => rfl
  | q :: l, k, h => by
    rw [getA_neg (fun e => h (by rw [← e]; exact List.mem_cons_self))]
    exact getA_out fun m => h (List.mem_cons_of_mem _ m)
theorem getA_in : ∀ {l : List (κ × α)} {k : κ}, k ∈ keysA l → ∃ v, getA l k = some v ∧ (k, v) ∈ l
  | [], _, h => absurd h List.not_mem_nil
  | q :: l, k, h => by
    by_cases e : q.1 = k
    · exact ⟨q.2, getA_pos e, by rw [← e]; exact List.mem_cons_self⟩
    · rcases List.mem_cons.mp h with h | h
      · exact absurd h.symm e
      · obtain ⟨v, a, b⟩ := getA_in h
        exact ⟨v, by rw [getA_neg e]; exact a, List.mem_cons_of_mem _ b⟩
theorem getA_mem {l : List (κ × α)} {k : κ} {v : α} (h : getA l k = some v) : (k, v) ∈ l := by
  by_cases m : k ∈ keysA l
  · obtain ⟨u, a, b⟩ := getA_in m
    rw [h] at a
    cases a
    exact b
  · rw [getA_out m] at h
    cases h
theorem mem_getA : ∀ {l : List (κ × α)} {k : κ} {v : α}, (keysA l).Nodup → (k, v) ∈ l → getA l k = some v
  | [], _, _, _, m => absurd m List.not_mem_nil
  | q :: l, k, v, nd, m => by
    have n2 := List.nodup_cons.mp nd
    rcases List.mem_cons.mp m with e | m
    · rw [← e]
      exact getA_pos rfl
    · have : ¬ q.1 = k := fun e => n2.1 (by rw [e]; exact List.mem_map.mpr ⟨_, m, rfl⟩)
      rw [getA_neg this]
      exact mem_getA n2.2 m
theorem keys_putA (l : List (κ × α)) (k : κ) (v : α) : keysA (putA l k v) = if k ∈ keysA l then keysA l else keysA l ++ [k] := by
  unfold putA
  by_cases h : k ∈ keysA l
  · rw [if_pos h, if_pos h]
    unfold keysA
    rw [List.map_map]
    refine List.map_congr_left fun q _ => ?_
    show (if q.1 = k then (q.1, v) else q).1 = q.1
    split <;> rfl
  · rw [if_neg h, if_neg h]
    unfold keysA
    rw [List.map_append]
    rfl
theorem putA_nodup {l : List (κ × α)} {k : κ} {v : α} (h : (keysA l).Nodup) : (keysA (putA l k v)).Nodup := by
  rw [keys_putA]
  split
  · exact h
  · rename_i n
    exact List.nodup_append.mpr ⟨h, by simp, fun a ha b hb e => n (by rw [List.mem_singleton.mp hb] at e; rw [← e]; exact ha)⟩
theorem putA_keys {l : List (κ × α)} {k x : κ} {v : α} : x ∈ keysA (putA l k v) ↔ x ∈ keysA l ∨ x = k := by
  rw [keys_putA]
  split
  · rename_i h
    exact ⟨.inl, fun q => q.elim id fun e => by rw [e]; exact h⟩
  · rw [List.mem_append, List.mem_singleton]
theorem putA_len (l : List (κ × α)) (k : κ) (v : α) : (putA l k v).length ≤ l.length + 1 := by
  unfold putA
  split
  · rw [List.length_map]
    omega
  · rw [List.length_append]
    exact Nat.le_refl _
theorem get_map {k x : κ} {v : α} : ∀ l : List (κ × α), getA (l.map (fun q => if q.1 = k then (q.1, v) else q)) x = if x = k then (if k ∈ keysA l then some v else none) else getA l x
  | [] => by
    show none = if x = k then (if k ∈ keysA ([] : List (κ × α)) then some v else none) else none
    rw [if_neg (show ¬ k ∈ keysA ([] : List (κ × α)) from List.not_mem_nil)]
    split <;> rfl
  | q :: l => by
    have ih := get_map (k := k) (x := x) (v := v) l
    rw [List.map_cons]
    by_cases e : q.1 = k
    · rw [if_pos e, if_pos (show k ∈ keysA (q :: l) by rw [← e]; exact List.mem_cons_self)]
      by_cases ex : x = k
      · rw [if_pos ex, getA_pos (by rw [ex]; exact e)]
      · rw [if_neg ex] at ih ⊢
        rw [getA_neg (fun z => ex (by rw [← z]; exact e)), ih, getA_neg (fun z => ex (by rw [← z]; exact e))]
    · rw [if_neg e]
      by_cases ex : x = k
      · rw [if_pos ex] at ih ⊢
        rw [getA_neg (by rw [ex]; exact e), ih]
        have : k ∈ keysA (q :: l) ↔ k ∈ keysA l := ⟨fun m => (List.mem_cons.mp m).elim (fun z => absurd z.symm e) id, List.mem_cons_of_mem _⟩
        by_cases m : k ∈ keysA l
        · rw [if_pos m, if_pos (this.mpr m)]
        · rw [if_neg m, if_neg (fun z => m (this.mp z))]
      · rw [if_neg ex] at ih ⊢
        by_cases e2 : q.1 = x
        · rw [getA_pos e2, getA_pos e2]
        · rw [getA_neg e2, getA_neg e2, ih]
theorem get_app {k x : κ} {v : α} : ∀ l : List (κ × α), ¬ k ∈ keysA l → getA (l ++ [(k, v)]) x = if x = k then some v else getA l x
  | [], _ => by
    show getA [(k, v)] x = _
    by_cases e : x = k
    · rw [if_pos e, getA_pos e.symm]
    · rw [if_neg e, getA_neg (fun z => e z.symm)]
  | q :: l, h => by
    have ih := get_app (k := k) (x := x) (v := v) l fun m => h (List.mem_cons_of_mem _ m)
    rw [List.cons_append]
    by_cases e : q.1 = x
    · rw [getA_pos e, getA_pos e, if_neg (fun z => h (by rw [← z, ← e]; exact List.mem_cons_self))]
    · rw [getA_neg e, getA_neg e, ih]
theorem get_putA {l : List (κ × α)} {k x : κ} {v : α} : getA (putA l k v) x = if x = k then some v else getA l x := by
  unfold putA
  by_cases h : k ∈ keysA l
  · rw [if_pos h, get_map, if_pos h]
  · rw [if_neg h, get_app l h]
variable {ι : κ → Key} {f : α → V}
theorem kv_get (hi : ∀ a b, ι a = ι b → a = b) (k : κ) : ∀ l : List (κ × α), valV (kvK ι f l) (ι k) = (getA l k).map f
  | [] => rfl
  | q :: l => by
    by_cases e : q.1 = k
    · rw [getA_pos e]
      exact valV_pos (p := (ι q.1, f q.2)) (by rw [e])
    · rw [getA_neg e, ← kv_get hi k l]
      exact valV_neg (p := (ι q.1, f q.2)) (fun z => e (hi _ _ z))
theorem kv_any (hi : ∀ a b, ι a = ι b → a = b) (k : κ) : ∀ l : List (κ × α), ((kvK ι f l).any fun kv => decide (kv.1 = ι k)) = decide (k ∈ keysA l)
  | [] => rfl
  | q :: l => by
    have ih := kv_any hi k l
    show (decide (ι q.1 = ι k) || (kvK ι f l).any fun kv => decide (kv.1 = ι k)) = _
    rw [ih]
    by_cases e : q.1 = k
    · rw [decide_eq_true (show ι q.1 = ι k by rw [e]), decide_eq_true (show k ∈ keysA (q :: l) by rw [← e]; exact List.mem_cons_self), Bool.true_or]
    · rw [decide_eq_false (fun z => e (hi _ _ z)), Bool.false_or]
      by_cases m : k ∈ keysA l
      · rw [decide_eq_true m, decide_eq_true (show k ∈ keysA (q :: l) from List.mem_cons_of_mem _ m)]
      · rw [decide_eq_false m]
        exact (decide_eq_false (show ¬ k ∈ keysA (q :: l) from fun z => (List.mem_cons.mp z).elim (fun y => e y.symm) m)).symm
theorem kv_put (hi : ∀ a b, ι a = ι b → a = b) (l : List (κ × α)) (k : κ) (v : α) : putK (kvK ι f l) (ι k) (f v) = kvK ι f (putA l k v) := by
  unfold putK putA
  rw [kv_any hi]
  by_cases h : k ∈ keysA l
  · rw [if_pos (decide_eq_true h), if_pos h]
    unfold kvK
    rw [List.map_map, List.map_map]
    refine List.map_congr_left fun q _ => ?_
    show (if ι q.1 = ι k then (ι q.1, f v) else (ι q.1, f q.2)) = (ι (if q.1 = k then (q.1, v) else q).1, f (if q.1 = k then (q.1, v) else q).2)
    by_cases e : q.1 = k
    · rw [if_pos (by rw [e]), if_pos e]
    · rw [if_neg (fun z => e (hi _ _ z)), if_neg e]
  · rw [if_neg (by rw [decide_eq_false h]; exact Bool.false_ne_true), if_neg h]
    unfold kvK
    rw [List.map_append]
    rfl
theorem kv_len (l : List (κ × α)) : (kvK ι f l).length = l.length := List.length_map _
end
theorem inl_inj : ∀ a b : Int, (Sum.inl a : Key) = .inl b → a = b := fun _ _ h => Sum.inl.inj h
theorem inr_inj : ∀ a b : Str, (Sum.inr a : Key) = .inr b → a = b := fun _ _ h => Sum.inr.inj h
section
variable {α : Type} {f : α → V} {H : Hp} {d : Addr}
theorem dgetIR {l : List (Int × α)} (h : Rd H d (.dK (kvK Sum.inl f l))) (k : Int) : DGet H d (.int k) ((getA l k).map f) := .inl ⟨_, .inl k, h, rfl, (kv_get inl_inj k l).symm⟩
theorem dgetSR {l : List (Str × α)} (h : Rd H d (.dK (kvK Sum.inr f l))) (k : Str) : DGet H d (.str k) ((getA l k).map f) := .inl ⟨_, .inr k, h, rfl, (kv_get inr_inj k l).symm⟩
theorem dgetI {l : List (Int × α)} (h : H d = some (.dK (kvK Sum.inl f l))) (k : Int) : DGet H d (.int k) ((getA l k).map f) := dgetIR (.of h) k
theorem dgetS {l : List (Str × α)} (h : H d = some (.dK (kvK Sum.inr f l))) (k : Str) : DGet H d (.str k) ((getA l k).map f) := dgetSR (.of h) k
theorem dputI {l : List (Int × α)} (h : H d = some (.dK (kvK Sum.inl f l))) (k : Int) (v : α) (hz : l.length < sizeLine) : DPut H d (.int k) (f v) (upd H d (.dK (kvK Sum.inl f (putA l k v)))) := by
  rw [← kv_put inl_inj]
  exact DPut.k (k := Sum.inl k) h (by rw [kv_len]; exact hz)
theorem dputS {l : List (Str × α)} (h : H d = some (.dK (kvK Sum.inr f l))) (k : Str) (v : α) (hz : l.length < sizeLine) : DPut H d (.str k) (f v) (upd H d (.dK (kvK Sum.inr f (putA l k v)))) := by
  rw [← kv_put inr_inj]
  exact DPut.k (k := Sum.inr k) h (by rw [kv_len]; exact hz)
end
/-- what is kept: all tuples but what stands at d -/
def Kp (d : Addr) (H H' : Hp) : Prop := ∀ b ys, b ≠ d → H b = some (.tup ys) → H' b = some (.tup ys)
def But (d : Addr) (H H' : Hp) : Prop := ∀ b o, b ≠ d → H b = some o → H' b = some o
theorem But.refl (d : Addr) (H : Hp) : But d H H := fun _ _ _ h => h
theorem But.trans {d : Addr} {H1 H2 H3 : Hp} (a : But d H1 H2) (b : But d H2 H3) : But d H1 H3 := fun c o n h => b c o n (a c o n h)
theorem Same.but {d : Addr} {H H' : Hp} (s : Same H H') : But d H H' := fun b o _ h => s b o h
theorem But.add {d : Addr} {H H' : Hp} (s : But d H H') {a : Addr} {o : HO} (h : H' a = none) : But d H (upd H' a o) := fun b u n q => by
  have q2 := s b u n q
  rw [upd_ne (ne_of_none q2 h)]
  exact q2
/-- [e for k in d if t]: the dict d stands still meanwhile -/
theorem lc_keysE {σ : St} {H : Hp} {Q : VK} {j slot : Nat} {d : Addr} {kvs : List (Key × V)} {tt : TT} {te : TE} (hi : σ[slot]? = some (some (.ref d))) (hd : H d = some (.dK kvs)) (out : Nat → List V → Hp → Prop)
    (mono : ∀ i xs H1 H2, Kp d H1 H2 → out i xs H1 → out i xs H2) (h0 : out 0 [] H)
    (step : ∀ od i kk v H3 xs (Ny : V → Hp → Prop) (Nn : Hp → Prop), kvs[i]? = some (kk, v) → H3 d = some (.frz od (.dK kvs)) → But d H H3 → out i xs H3 → xs.length ≤ i →
      (∀ y H6, H6 d = some (.frz od (.dK kvs)) → But d H3 H6 → out (i + 1) (xs ++ [y]) H6 → Ny y H6) → (∀ H5, H5 d = some (.frz od (.dK kvs)) → But d H3 H5 → out (i + 1) xs H5 → Nn H5) →
      tt ((σ.set j none).set j (some (kV kk))) H3 fun b H5 => if b = true then te ((σ.set j none).set j (some (kV kk))) H5 Ny else Nn H5)
    (hz : kvs.length < sizeLine)
    (fin : ∀ L xs H', Same H H' → H L = none → H' L = some (.lst xs) → out kvs.length xs H' → xs.length ≤ kvs.length → Q (.ref L) H') : ∃ (d' : Addr) (u : HO), H d' = some u ∧ Mut (some u) ∧ ∀ od, tLc (iKeys (tVar slot)) (gName j) tt te [j] σ (upd H d' (.frz od u)) fun v H' => H' d' = some (.frz od u) ∧ Q v (upd H' d' u) := by
  refine ⟨d, .dK kvs, hd, trivial, fun od => ?_⟩
  refine ⟨_, hi, d, od, rfl, .inl ⟨kvs, upd_same, fun L hL => ?_⟩⟩
  have nDL : d ≠ L := fun e => by
    rw [← e, upd_same] at hL
    cases hL
  have freeL : H L = none := by
    rw [upd_ne nDL.symm] at hL
    exact hL
  have b0 : But d H (upd H d (.frz od (.dK kvs))) := fun b o n q => by rw [upd_ne n]; exact q
  refine lc_it (walk_keys (d := d) (o := od) (kvs := kvs)) (fun i H3 => But d H H3 ∧ H3 d = some (.frz od (.dK kvs)) ∧ ∃ xs, H3 L = some (.lst xs) ∧ out i xs H3 ∧ xs.length ≤ i)
    ⟨b0.add hL, by rw [upd_ne nDL]; exact upd_same, [], upd_same, mono _ _ _ _ (fun b ys n q => ?_) h0, Nat.le_refl _⟩ (fun i H3 _ q => q.2.1) ?_ ?_
  · have q2 := b0 b _ n q
    rw [upd_ne (ne_of_none q2 hL)]
    exact q2
  · rintro i x H3 H4 hi ⟨b3, h3, xs, l3, o3, z3⟩ ⟨rfl, kk, vv, hk, rfl⟩
    refine ⟨set_none σ, ?_⟩
    have hlt := (List.getElem?_eq_some_iff.mp hk).1
    refine step od i kk vv H4 xs _ _ hk h3 b3 o3 z3 (fun y H6 h6 b6 o6 => ?_) (fun H5 h5 b5 o5 => ?_)
    · have l6 := b6 L _ nDL.symm l3
      refine ⟨xs, l6, by omega, fun b o n q => ?_, by rw [upd_ne nDL]; exact h6, xs ++ [y], upd_same, mono _ _ _ _ (fun b ys n q => ?_) o6, by rw [List.length_append, List.length_singleton]; omega⟩
      · rw [upd_ne (ne_of_none q freeL)]
        exact b6 b o n (b3 b o n q)
      · rw [upd_ne (ne_of q l6 (by intro z; cases z))]
        exact q
    · exact ⟨b3.trans b5, h5, xs, b5 L _ nDL.symm l3, o5, Nat.le_succ_of_le z3⟩
  · rintro H3 ⟨b3, h3, xs, l3, o3, z3⟩
    refine ⟨h3, fin L xs _ (fun b o q => ?_) freeL (by rw [upd_ne nDL.symm]; exact l3) (mono _ _ _ _ (fun b ys n q => by rw [upd_ne n]; exact q) o3) z3⟩
    by_cases e : b = d
    · rw [e] at q ⊢
      rw [upd_same, ← hd]
      exact q
    · rw [upd_ne e]
      exact b3 b o e q
/-- [e for k in d if t]: the dict d stands still meanwhile -/
theorem lc_keys {σ : St} {H : Hp} {Q : VK} {j slot : Nat} {d : Addr} {kvs : List (Key × V)} {tt : TT} {te : TE} (hi : σ[slot]? = some (some (.ref d))) (hd : H d = some (.dK kvs)) (out : Nat → List V → Hp → Prop)
    (mono : ∀ i xs H1 H2, Kp d H1 H2 → out i xs H1 → out i xs H2) (h0 : out 0 [] H)
    (step : ∀ od i kk v H3 xs (Ny : V → Hp → Prop) (Nn : Hp → Prop), kvs[i]? = some (kk, v) → H3 d = some (.frz od (.dK kvs)) → But d H H3 → out i xs H3 → xs.length ≤ i →
      (∀ y H6, H6 d = some (.frz od (.dK kvs)) → But d H3 H6 → out (i + 1) (xs ++ [y]) H6 → Ny y H6) → (∀ H5, H5 d = some (.frz od (.dK kvs)) → But d H3 H5 → out (i + 1) xs H5 → Nn H5) →
      tt ((σ.set j none).set j (some (kV kk))) H3 fun b H5 => if b = true then te ((σ.set j none).set j (some (kV kk))) H5 Ny else Nn H5)
    (hz : kvs.length < sizeLine)
    (fin : ∀ L xs H', Same H H' → H L = none → H' L = some (.lst xs) → out kvs.length xs H' → xs.length ≤ kvs.length → Q (.ref L) H') : tLockE (tLc (iKeys (tVar slot)) (gName j) tt te [j]) σ H Q := lc_keysE hi hd out mono h0 step hz fin
end L2.Hx

/-! list(d.values()); d == {}; a walk over a dict's pairs. -/
namespace L2
open PySem PySem.Spec PyProof.Rows
def tListVals (te : TE) : TE := fun σ H Q => te σ H fun x H1 => ∃ (d : Addr) (kvs : List (Key × V)), x = .ref d ∧ H1 d = some (.dK kvs) ∧ ∀ p, H1 p = none → Q (.ref p) (upd H1 p (.lst (kvs.map Prod.snd)))
section
variable {X : Cx} {e : Expr} {te : TE} {p apos cpos pos : Pos}
theorem kv_vals : ∀ {kvs : List (Key × V)} {vs : List (Key × Value)}, KV kvs vs → Vals (kvs.map Prod.snd) (vs.map Prod.snd)
  | [], _, .nil => .nil
  | _ :: _, _, .cons r t => .cons r.2 (kv_vals t)
/-- list(e.values()) -/
theorem pe_listVals (hc : X.calm = true) (he : PE X e te) (hg : Gl X "list") (hm : X.mg "list" = none) (hv : bootBuiltins "list" = some (.type "list")) (hbase : attributeBase e "values" X.env (eval e X.env) = eval e X.env := by rfl) (hline : (apos.endLine == cpos.line) = true := by rfl)
    (hs : starEach [.Call (.Attribute e "values" apos) [] [] cpos] X.env = (false, eval (.Call (.Attribute e "values" apos) [] [] cpos) X.env) :: starEach [] X.env := by rfl) :
    PE X (.Call (.Name "list" p) [.Call (.Attribute e "values" apos) [] [] cpos] [] pos) (tListVals te) := by
  refine ⟨fun pins s σ H Q I hq => ?_⟩
  refine wpAny_Call_Name_kw (ld_blt I hg hm hv ?_)
  refine PyProof.Rows.callWith_type1 ?_ hs rfl
  rw [hs]
  show wpAny _ _ (spliced ((false, eval (.Call (.Attribute e "values" apos) [] [] cpos) X.env) :: backTo pos (starEach [] X.env))) _ _ s
  refine Calls.spliced_cons ?_
  refine wpAny_Call_method (T := "dict") (id := "dict.values") hbase rfl hline F.plainAttrs_dict F.slot_dict_values F.type_dict_values (thn (he.run pins s σ H _ I hq) fun u s1 ⟨x, H1, I1, rx, d, kvs, ex, hd, q⟩ => ?_)
  subst ex
  obtain rfl : u = Value.ref d := rx
  obtain ⟨hz, hs0, vs, kv, hdo⟩ := I1.hok d _ hd
  obtain ⟨ep, hat⟩ := hdo.dictAt
  have lk : kvs.length = vs.length := Paired.length kv
  have I2 : Inv X pins σ H1 { s1 with heap := s1.heap.push { cls := .type "dict_values", data := .fields #[.ref d] } } := I1.kept (t' := s1.toks) fun b ob q => Heap.get?_push_of_some _ q
  refine ⟨hdo.typeIs, hdo.mapOf.noDict, ?_⟩
  show wpAny _ _ (callWith cpos (.builtin "dict.values") [.ref d] [] []) _ X.xe s1
  refine method_meetsIn F.slot_dict_values F.entry_dict_values rfl (PySem.evalArgs_none ⟨rfl, hdo.typeIs, F.args_dict_values_1 _, _, meets_dict_values (mixKind X.prog X.w) d hs0, ⟨vs, hdo⟩, ?_⟩)
  refine Calls.spliced_nil ?_
  have hlt : d < s1.heap.objs.size := by
    obtain ⟨o, _, ho, _⟩ := hat
    exact Heap.lt_size ho
  refine PySem.W.kdl_call (PySem.W.kdl_values (knd := mixKind X.prog X.w) (r := s1.heap.objs.size) (d := d) (kvs := vs) (ep := ep)) (I1.ok.hd hc) ⟨⟨_, Heap.get?_push_size _ rfl, rfl, rfl⟩, hat.push _⟩ (by omega) fun h' tk acc c' hk hD hacc => ?_
  have ev : acc.toList = vs.map Prod.snd := PySem.W.kdl_vals_eq acc.toList (by rw [Array.length_toList]; exact hacc.1) fun j v e => hacc.2 j v (by rw [← Array.getElem?_toList]; exact e)
  refine ⟨.ref _, upd H1 _ (.lst (kvs.map Prod.snd)), I2.laid (t' := tk) hk (Nat.le_refl _)
    (show ObjOk X.prog X.w _ _ _ (.lst (kvs.map Prod.snd)) from ⟨by rw [List.length_map]; exact hz, acc.toList, c', by rw [ev]; exact kv_vals kv, by rw [Array.toArray_toList]; exact hD⟩), rfl, q _ (I2.hok.fresh (Nat.le_refl _))⟩
end
namespace Hx
/-- d == {} -/
def rEqDct : R2 := fun x y H Q => ∃ a b ks, x = .ref a ∧ y = .ref b ∧ H a = some (.dK ks) ∧ H b = some (.dK []) ∧ Q (.bl ks.isEmpty) H
theorem op_eqDct {X : Cx} (hu : X.A.units < cLine) : OpR X (compareOp .Eq) rEqDct := by
  intro pins s σ H x y v u Q I rx ry h
  obtain ⟨a, b, ks, rfl, rfl, ea, eb, q⟩ := h
  obtain rfl : v = Value.ref a := rx
  obtain rfl : u = Value.ref b := ry
  obtain ⟨_, ya, va, ra, da⟩ := (show ObjOk X.prog X.w H s.heap a (.dK ks) from I.hok a _ ea)
  obtain ⟨_, yb, vb, rb, db⟩ := (show ObjOk X.prog X.w H s.heap b (.dK []) from I.hok b _ eb)
  have l1 := ra.length
  have l2 := rb.length
  refine PySem.W.keq_eq (knd := mixKind X.prog X.w) (r := true) ya yb da db hu (fun e => ?_) (fin_bl I q ?_)
  · have e0 : ks = [] := List.length_eq_zero_iff.mp (by rw [l1, e, ← l2]; rfl)
    subst e0
    exact hits_all rb ra fun p m => absurd m List.not_mem_nil
  · rw [← l1, ← l2]
    cases ks <;> rfl
/-- {k: e for x in ..} over a walk -/
theorem dc_it {J : It} {n : Nat} {G : Hp → Prop} {Y : Nat → Hp → V → Hp → Prop} (w : Walk J n G Y) {g : TG} {tt : TT} {tk tv : TE} {vs : List Nat} {σ : St} {H1 : Hp} {D : Addr} {Qd : Hp → Prop} (Pv : Nat → Hp → Prop) (h0 : Pv 0 (upd H1 D (.dK []))) (hG : ∀ i H, i ≤ n → Pv i H → G H)
    (hs : ∀ i x H H', i < n → Pv i H → Y i H x H' → g x (wipe σ vs) H' fun σ2 H2 => wipe σ2 vs = wipe σ vs ∧ tt σ2 H2 fun b H3 =>
      if b = true then tk σ2 H3 fun y H4 => tv σ2 H4 fun z H5 => ∃ kvs k, y = kV k ∧ H5 D = some (.dK kvs) ∧ kvs.length < sizeLine ∧ Pv (i + 1) (upd H5 D (.dK (putK kvs k z))) else Pv (i + 1) H3) (hd : ∀ H, Pv n H → Qd H) :
    ∃ W : Nat → Nat → Hp → Prop, (∃ m, W 0 m (upd H1 D (.dK []))) ∧ ∀ i m H, W i m H →
      (J.stop i H ∧ Qd H) ∨ (J.go i H ∧ ∃ Nx : Hp → Prop, (∀ H', Nx H' → ∃ m', m' < m ∧ W (i + 1) m' H') ∧ ∀ x H', J.yld i H x H' → g x (wipe σ vs) H' fun σ2 H2 => wipe σ2 vs = wipe σ vs ∧ tt σ2 H2 fun b H3 =>
        if b = true then tk σ2 H3 fun y H4 => tv σ2 H4 fun z H5 => ∃ kvs k, y = kV k ∧ H5 D = some (.dK kvs) ∧ kvs.length < sizeLine ∧ Nx (upd H5 D (.dK (putK kvs k z))) else Nx H3) := by
  refine ⟨fun i m H => m = n - i ∧ i ≤ n ∧ Pv i H, ⟨n, by simp, Nat.zero_le _, h0⟩, ?_⟩
  rintro i m H ⟨rfl, hi, p⟩
  have q := hG i H hi p
  by_cases hlt : i < n
  · refine .inr ⟨w.goes i H hlt q, Pv (i + 1), fun H' p' => ⟨n - (i + 1), by omega, rfl, hlt, p'⟩, fun x H' y => hs i x H H' hlt p (w.yields i H x H' hlt q y)⟩
  · have e : i = n := by omega
    subst e
    exact .inl ⟨w.stops H q, hd H p⟩
/-- [e for (k, v) in d.items() if t]: the dict d stands still meanwhile -/
theorem lc_itemsE {σ : St} {H : Hp} {Q : VK} {vs : List Nat} {g : TG} {slot : Nat} {d : Addr} {kvs : List (Key × V)} {tt : TT} {te : TE} (hi : σ[slot]? = some (some (.ref d))) (hd : H d = some (.dK kvs)) (out : Nat → List V → Hp → Prop)
    (mono : ∀ i xs H1 H2, Kp d H1 H2 → out i xs H1 → out i xs H2) (h0 : out 0 [] H)
    (step : ∀ od i kk v T H3 xs (Ny : V → Hp → Prop) (Nn : Hp → Prop), kvs[i]? = some (kk, v) → H3 d = some (.frz od (.dK kvs)) → But d H H3 → H3 T = some (.tup [kV kk, v]) → out i xs H3 → xs.length ≤ i →
      (∀ y H6, H6 d = some (.frz od (.dK kvs)) → But d H3 H6 → out (i + 1) (xs ++ [y]) H6 → Ny y H6) → (∀ H5, H5 d = some (.frz od (.dK kvs)) → But d H3 H5 → out (i + 1) xs H5 → Nn H5) →
      g (.ref T) (wipe σ vs) H3 fun σ2 H2 => wipe σ2 vs = wipe σ vs ∧ tt σ2 H2 fun b H5 => if b = true then te σ2 H5 Ny else Nn H5)
    (hz : kvs.length < sizeLine)
    (fin : ∀ L xs H', Same H H' → H L = none → H' L = some (.lst xs) → out kvs.length xs H' → xs.length ≤ kvs.length → Q (.ref L) H') : ∃ (d' : Addr) (u : HO), H d' = some u ∧ Mut (some u) ∧ ∀ od, tLc (iItems (tVar slot)) g tt te vs σ (upd H d' (.frz od u)) fun v H' => H' d' = some (.frz od u) ∧ Q v (upd H' d' u) := by
  refine ⟨d, .dK kvs, hd, trivial, fun od => ?_⟩
  refine ⟨_, hi, d, od, kvs, rfl, upd_same, fun L hL => ?_⟩
  have nDL : d ≠ L := fun e => by
    rw [← e, upd_same] at hL
    cases hL
  have freeL : H L = none := by
    rw [upd_ne nDL.symm] at hL
    exact hL
  have b0 : But d H (upd H d (.frz od (.dK kvs))) := fun b o n q => by rw [upd_ne n]; exact q
  refine lc_it (walk_items (d := d) (o := od) (kvs := kvs)) (fun i H3 => But d H H3 ∧ H3 d = some (.frz od (.dK kvs)) ∧ ∃ xs, H3 L = some (.lst xs) ∧ out i xs H3 ∧ xs.length ≤ i)
    ⟨b0.add hL, by rw [upd_ne nDL]; exact upd_same, [], upd_same, mono _ _ _ _ (fun b ys n q => ?_) h0, Nat.le_refl _⟩ (fun i H3 _ q => q.2.1) ?_ ?_
  · have q2 := b0 b _ n q
    rw [upd_ne (ne_of_none q2 hL)]
    exact q2
  · rintro i x H3 H4 hi ⟨b3, h3, xs, l3, o3, z3⟩ ⟨T, a, v, rfl, hT, rfl, e1, e2⟩
    obtain ⟨⟨kk, vv⟩, hk, rfl⟩ := Option.map_eq_some_iff.mp e1
    dsimp only at e1 e2
    rw [hk] at e2
    obtain rfl : vv = v := Option.some.inj e2
    have nT : d ≠ T := ne_of_none h3 hT
    have b4 : But d H3 (upd H3 T (.tup [kV kk, vv])) := (But.refl d H3).add hT
    refine step od i kk vv T _ xs _ _ hk (by rw [upd_ne nT]; exact h3) (b3.trans b4) upd_same (mono _ _ _ _ (fun b ys n q => b4 b _ n q) o3) z3 (fun y H6 h6 b6 o6 => ?_) (fun H5 h5 b5 o5 => ?_)
    · have l6 := b6 L _ nDL.symm (b4 L _ nDL.symm l3)
      refine ⟨xs, l6, by omega, fun b o n q => ?_, by rw [upd_ne nDL]; exact h6, xs ++ [y], upd_same, mono _ _ _ _ (fun b ys n q => ?_) o6, by rw [List.length_append, List.length_singleton]; omega⟩
      · rw [upd_ne (ne_of_none q freeL)]
        exact b6 b o n (b4 b o n (b3 b o n q))
      · rw [upd_ne (ne_of q l6 (by intro z; cases z))]
        exact q
    · exact ⟨b3.trans (b4.trans b5), h5, xs, b5 L _ nDL.symm (b4 L _ nDL.symm l3), o5, Nat.le_succ_of_le z3⟩
  · rintro H3 ⟨b3, h3, xs, l3, o3, z3⟩
    refine ⟨h3, fin L xs _ (fun b o q => ?_) freeL (by rw [upd_ne nDL.symm]; exact l3) (mono _ _ _ _ (fun b ys n q => by rw [upd_ne n]; exact q) o3) z3⟩
    by_cases e : b = d
    · rw [e] at q ⊢
      rw [upd_same, ← hd]
      exact q
    · rw [upd_ne e]
      exact b3 b o e q
end Hx
end L2

/-! name = {k: v for ..} on one line, the name a local. -/
namespace L2
open PySem PySem.Spec PyProof.Rows
section
variable {X : Cx}
theorem ps_setDc {i : Nat} {y : Str} {py : Pos} {kx vx tg iter : Expr} {ifs : List Expr} {scope : Scope} {own : List (Str × Nat)} {pos spos : Pos} {wi : TI} {g : TG} {tt : TT} {tk tv : TE} (hc : X.calm = true) (hN : X.N.Nodup) (hy : X.N[i]? = some y) (hyl : X.env.scope.names.lookup y = some .local)
    (hsw : swapsWith (.DictComp kx vx [⟨tg, iter, ifs, 0⟩] scope pos) (some (.Name y py)) spos.line X.env = pure true) (hi : PI X tg iter wi) (ok : BlkOk X.N X.env.scope scope own)
    (hg : ∀ (s : Shared) (H : Hp) (C : Addr) (cl : List (Str × Addr)) (fp : List Addr), PG (X.blk s H scope (compEnvC scope cl C X.env) fp) tg g) (ht : ∀ (s : Shared) (H : Hp) (C : Addr) (cl : List (Str × Addr)) (fp : List Addr), PTs (X.blk s H scope (compEnvC scope cl C X.env) fp) ifs tt)
    (hk : ∀ (s : Shared) (H : Hp) (C : Addr) (cl : List (Str × Addr)) (fp : List Addr), PE (X.blk s H scope (compEnvC scope cl C X.env) fp) kx tk)
    (he : ∀ (s : Shared) (H : Hp) (C : Addr) (cl : List (Str × Addr)) (fp : List Addr), PE (X.blk s H scope (compEnvC scope cl C X.env) fp) vx tv) (hs : ∀ x, foldedSetIterable iter X.env x = pure x := by intro _; rfl) :
    PS X (.Assign [.Name y py] (.DictComp kx vx [⟨tg, iter, ifs, 0⟩] scope pos) spos) (tAsg (tDc wi g tt tk tv (own.map (·.2))) (gName i)) := by
  refine ⟨fun pins s σ H D I h => ?_⟩
  rw [exec_Assign_Name_used _ _ _ _ hsw]
  refine wpAny_bind (wpAny_standAt (wpAny_bind ?_))
  show wpAny _ X.A (do let _ ← comprehension (.DictComp kx vx [⟨tg, iter, ifs, 0⟩] scope pos) scope X.env (firstIterPos [⟨tg, iter, ifs, 0⟩] pos) newDict false (eval iter X.env) (some (assign (.Name y py) X.env))) _ _ s
  have h : tDc wi g tt tk tv (own.map (·.2)) σ H (fun x H1 => gName i x σ H1 D.nx) := h
  refine wpAny_bind (thn (dc_core (Qf := fun _ s' => SP X pins D .next s') hc hN I hi ok hg ht hk he hs h fun L C s' m H' I' q hn f => ?_) fun _ s' hq => wpAny_pure (wpAny_pure hq))
  show wpAny _ _ (assign (.Name y py) X.env (.ref L)) _ _ _
  refine wpAny_assign_Name (store_ok2 (v := V.ref L) I' hN hy (.inl hyl) rfl (fun s2 I2 ⟨a, sb, ha⟩ => ?_) (.inr hyl))
  obtain ⟨f0, f1, f2, f3, f4, f5⟩ := f
  have haC : C ≠ a := by
    rcases ha with z | z
    · rw [z]; exact f1
    · exact fun e => f4 y a z e.symm
  refine ⟨m, hn.sameBut sb haC, fun h3 sb3 => ?_⟩
  exact ⟨_, H', I2.turned (t' := s2.toks) (fun b o hb e => (sb3.2 b hb).trans e) f0 f1 f3 f4 f5, q⟩
theorem sw_trueD {kx vx : Expr} {gs : List Comprehension} {scope : Scope} {pos py : Pos} {y : Str} {l : Nat} {env : Env} (hk : env.scope.kind = .function) (hy : env.scope.names.lookup y = some .local) (hl : (py.line == pos.line) = true)
    (ha : (scope.names.any fun (n, k) => n == y && (k == .local || k == .cell)) = false) : swapsWith (.DictComp kx vx gs scope pos) (some (.Name y py)) l env = pure true := by
  have ky : env.kindOf y = some .local := hy
  have hb : env.blockKind = .function := by unfold Env.blockKind; rw [hk]; rfl
  unfold swapsWith
  simp only [hb, ky, ha, Expr.pos, hl]
  rfl
end
end L2

/-! tuple * 0, tuple * 1. -/
namespace L2
open PySem PySem.Spec PyProof.Rows
open AutoSeq1 (wpAny_loadPart')
theorem tuple_mul1 (l : Addr) (items : Array Value) (n : Nat) (dd : Option Addr) (sl : Array (Option Value)) (u : Tok) :
    Meets (Builtin.«tuple.__mul__» ⟨[.ref l, .int 1 u], []⟩) (fun _ R s => s.heap.get? l = some { cls := .type "tuple", dict := dd, data := .seq items n, slots := sl } ∧
      R (.ok (.ret (Value.ref l))) s) :=
  .of_wp fun prog w A R s h => by
    obtain ⟨hp, g, d, tk, os⟩ := s
    obtain ⟨hl, h⟩ := h
    have f1 := AutoSeq1.idx_int
    have c0 : (decide ((1 : Int) < -(2 ^ 63)) || decide ((1 : Int) ≥ 2 ^ 63)) = false := by decide
    have c1 : (items.isEmpty || (1 : Int) == 1) = true := by simp
    wp_walk using wpAny_loadPart' hl
    repeat (first
      | (refine wpAny_ite_false (decide_eq_false (by rw [c0]; exact Bool.false_ne_true)) ?_; wp_walk using wpAny_loadPart' hl)
      | (refine wpAny_ite_true (decide_eq_true (by rw [c1])) ?_; wp_walk using wpAny_loadPart' hl))
    exact ⟨_, rfl, h⟩
theorem tuple_mul0 (l : Addr) (items : Array Value) (n : Nat) (dd : Option Addr) (sl : Array (Option Value)) (u : Tok) (hne : items.isEmpty = false) :
    Meets (Builtin.«tuple.__mul__» ⟨[.ref l, .int 0 u], []⟩) (fun _ R s => s.heap.get? l = some { cls := .type "tuple", dict := dd, data := .seq items n, slots := sl } ∧
      R (.ok (.ret (Value.ref s.heap.objs.size))) { s with heap := s.heap.push { cls := Value.type "tuple", data := Data.seq #[] } }) :=
  .of_wp fun prog w A R s h => by
    obtain ⟨hp, g, d, tk, os⟩ := s
    obtain ⟨hl, h⟩ := h
    have f1 := AutoSeq1.idx_int
    have c0 : (decide ((0 : Int) < -(2 ^ 63)) || decide ((0 : Int) ≥ 2 ^ 63)) = false := by decide
    have c1 : (items.isEmpty || (0 : Int) == 1) = false := by rw [hne]; rfl
    have c2 : (decide ((0 : Int) ≤ 0) || items.isEmpty) = true := by simp
    wp_walk using wpAny_loadPart' hl
    repeat (first
      | (refine wpAny_ite_false (decide_eq_false (by rw [c0]; exact Bool.false_ne_true)) ?_; wp_walk using wpAny_loadPart' hl)
      | (refine wpAny_ite_false (decide_eq_false (by rw [c1]; exact Bool.false_ne_true)) ?_; wp_walk using wpAny_loadPart' hl)
      | (refine wpAny_ite_true (decide_eq_true (by rw [c2])) ?_; wp_walk using wpAny_loadPart' hl))
    exact ⟨_, rfl, h⟩
/-- t * k, k from 0 on -/
def rRepZ (K : PySem.W.Frag) : R2 := fun x y H Q => ∃ l k xs, x = .ref l ∧ y = .int k ∧ SqT K H l xs ∧ xs ≠ [] ∧ 0 ≤ k ∧ k ≤ 1000 ∧ xs.length ≤ 1000 ∧ (k = 1 → Q (.ref l) H) ∧ (k ≠ 1 → ∀ p, H p = none → Q (.ref p) (upd H p (.tup (List.replicate k.toNat xs).flatten)))
theorem op_repZ {X : Cx} : OpR X (binaryOp .Mult) (rRepZ X.K) := by
  intro pins s σ H x y v u Q I rx ry h
  obtain ⟨l, k, xs, rfl, rfl, hT, hne, h1, h2, hz, q1, q2⟩ := h
  by_cases k1 : k = 1
  · subst k1
    cases rx
    obtain ⟨t, rfl⟩ := ry
    obtain ⟨its, r, ⟨⟨cls, dd, data, sl⟩, ho, hc, n, hd⟩, hs⟩ := I.tuple hT
    simp only at hc hd
    subst hc hd
    refine wpAny_binaryOp_repeat_ref (T := "tuple") (U := "int") (by decide) ⟨_, ho, rfl⟩ (fun s' => typeIs_int s' 1 t) noFill_tuple_mul F.fills_int_mul F.slot_int_rmul repeat_tuple F.slot_int_index.lookup
      (call_meets F.slot_int_rmul (typeIs_int s 1 t) F.entry_int_rmul (F.args_int_rmul_2 _ _) (int_rmul_tuple 1 t l its.toArray n dd sl)
        ⟨ho, rfl, ⟨_, ho, rfl⟩, call_meets F.slot_tuple_mul ⟨_, ho, rfl⟩ F.entry_tuple_mul (F.args_tuple_mul_2 _ _) (tuple_mul1 l its.toArray n dd sl t) ⟨ho, ?_⟩⟩)
    exact ⟨.ref l, H, I, rfl, q1 rfl⟩
  · by_cases k0 : k = 0
    · subst k0
      cases rx
      obtain ⟨t, rfl⟩ := ry
      obtain ⟨its, r, ⟨⟨cls, dd, data, sl⟩, ho, hc, n, hd⟩, hs⟩ := I.tuple hT
      simp only at hc hd
      subst hc hd
      have hi : its.toArray.isEmpty = false := by
        cases its with
        | nil =>
          cases r
          exact absurd rfl hne
        | cons a b => rfl
      refine wpAny_binaryOp_repeat_ref (T := "tuple") (U := "int") (by decide) ⟨_, ho, rfl⟩ (fun s' => typeIs_int s' 0 t) noFill_tuple_mul F.fills_int_mul F.slot_int_rmul repeat_tuple F.slot_int_index.lookup
        (call_meets F.slot_int_rmul (typeIs_int s 0 t) F.entry_int_rmul (F.args_int_rmul_2 _ _) (int_rmul_tuple 0 t l its.toArray n dd sl)
          ⟨ho, rfl, ⟨_, ho, rfl⟩, call_meets F.slot_tuple_mul ⟨_, ho, rfl⟩ F.entry_tuple_mul (F.args_tuple_mul_2 _ _) (tuple_mul0 l its.toArray n dd sl t hi) ⟨ho, ?_⟩⟩)
      refine ⟨.ref s.heap.objs.size, _, I.laid (t' := s.toks) (o := .tup []) (fun b ob q => Heap.get?_push_of_some _ q) (Nat.le_refl _) ?_, rfl, q2 k1 _ (I.hok.fresh (Nat.le_refl _))⟩
      exact ⟨Nat.zero_le _, [], .nil, IsTup.new _ _⟩
    · exact op_repT pins s σ H _ _ v u Q I rx ry ⟨l, k, xs, rfl, rfl, hT, hne, by omega, h2, hz, q2 k1⟩
theorem tuple_mulE (l : Addr) (n : Nat) (dd : Option Addr) (sl : Array (Option Value)) (x : Int) (u : Tok) (h0 : 0 ≤ x) (h1 : x ≤ 1000) :
    Meets (Builtin.«tuple.__mul__» ⟨[.ref l, .int x u], []⟩) (fun _ R s => s.heap.get? l = some { cls := .type "tuple", dict := dd, data := .seq #[] n, slots := sl } ∧
      R (.ok (.ret (Value.ref l))) s) :=
  .of_wp fun prog w A R s h => by
    obtain ⟨hp, g, d, tk, os⟩ := s
    obtain ⟨hl, h⟩ := h
    have f1 := AutoSeq1.idx_int
    have c0 : (decide (x < -(2 ^ 63)) || decide (x ≥ 2 ^ 63)) = false := by
      rw [decide_eq_false (by omega), decide_eq_false (by omega)]
      rfl
    have c1 : ((#[] : Array Value).isEmpty || x == 1) = true := by simp
    wp_walk using wpAny_loadPart' hl
    repeat (first
      | (refine wpAny_ite_false (decide_eq_false (by rw [c0]; exact Bool.false_ne_true)) ?_; wp_walk using wpAny_loadPart' hl)
      | (refine wpAny_ite_true (decide_eq_true (by rw [c1])) ?_; wp_walk using wpAny_loadPart' hl))
    exact ⟨_, rfl, h⟩
/-- t * k, k from 0 on, t of any length -/
def rRepE (K : PySem.W.Frag) : R2 := fun x y H Q => ∃ l k xs, x = .ref l ∧ y = .int k ∧ SqT K H l xs ∧ 0 ≤ k ∧ k ≤ 1000 ∧ xs.length ≤ 1000 ∧ (xs = [] → Q (.ref l) H) ∧ (xs ≠ [] → k = 1 → Q (.ref l) H) ∧ (xs ≠ [] → k ≠ 1 → ∀ p, H p = none → Q (.ref p) (upd H p (.tup (List.replicate k.toNat xs).flatten)))
theorem op_repE {X : Cx} : OpR X (binaryOp .Mult) (rRepE X.K) := by
  intro pins s σ H x y v u Q I rx ry h
  obtain ⟨l, k, xs, rfl, rfl, hT, h1, h2, hz, q0, q1, q2⟩ := h
  by_cases hx : xs = []
  · subst hx
    cases rx
    obtain ⟨t, rfl⟩ := ry
    obtain ⟨its, r, ⟨⟨cls, dd, data, sl⟩, ho, hc, n, hd⟩, hs⟩ := I.tuple hT
    simp only at hc hd
    subst hc hd
    cases r
    refine wpAny_binaryOp_repeat_ref (T := "tuple") (U := "int") (by decide) ⟨_, ho, rfl⟩ (fun s' => typeIs_int s' k t) noFill_tuple_mul F.fills_int_mul F.slot_int_rmul repeat_tuple F.slot_int_index.lookup
      (call_meets F.slot_int_rmul (typeIs_int s k t) F.entry_int_rmul (F.args_int_rmul_2 _ _) (int_rmul_tuple k t l _ n dd sl)
        ⟨ho, rfl, ⟨_, ho, rfl⟩, call_meets F.slot_tuple_mul ⟨_, ho, rfl⟩ F.entry_tuple_mul (F.args_tuple_mul_2 _ _) (tuple_mulE l n dd sl k t h1 h2) ⟨ho, ?_⟩⟩)
    exact ⟨.ref l, H, I, rfl, q0 rfl⟩
  · exact op_repZ pins s σ H _ _ v u Q I rx ry ⟨l, k, xs, rfl, rfl, hT, hx, h1, h2, hz, q1 hx, q2 hx⟩
end L2

/-! {**d, k: v, ..}: a dict display that begins with all pairs of a dict. -/
namespace PySem
open Sem (wp)
section
variable {prog : Program} {w : World} {K : Type} [DecidableEq K] {knd : KeyKind prog w K} {A : Around} {E : Value → Shared → Prop} {s : Shared}
theorem wpAny_dictPut_pairs {d : Addr} {kvs : List (K × Value)} {k : K} {key v : Value} {Q : Unit → Shared → Prop} (hkey : knd.is k key = true) (hm : s.heap.DictOf knd d kvs)
    (hQ : ∀ h', h'.DictOf knd d (stored kvs k v) → Heap.SameBut d s.heap h' → Q () { s with heap := h' })
    (hsz : kvs.length ≤ sizeLine := by size_fits) :
    wpAny (model prog w) A (dictPut d (knd.hash k) key v) Q E s := by
  obtain ⟨o, es, ep, ho, hc, hd, hk, hp, hn⟩ := hm
  have hes : es.size ≤ sizeLine := by have e1 := hp.length; have e2 : es.toList.length = es.size := by simp
                                      omega
  unfold dictPut
  refine wpAny_bind (wpAny_dictFind_of hkey ho hd hk ?_)
  have hidx : (es.findIdx? fun e => knd.is k e.key) = kvs.findIdx? fun kv => decide (kv.1 = k) := by
    rw [← hp.findIdx k]; obtain ⟨l⟩ := es; simp
  cases hi : es.findIdx? fun e => knd.is k e.key with
  | some i =>
    refine wpAny_updateDict ho hd (hQ _ ⟨_, _, ep, Heap.get?_update_self _ ho (Obj.isFreed_of_dict (Obj.data_mapDict hd _)),
      hc.mapDict _, Obj.data_mapDict hd _, hk.modify _ _, ?_, ?_⟩ (Heap.SameBut.update ..))
    · rw [stored, if_pos (any_of_findIdx_some (hidx ▸ hi))]
      have hl : (es.toList.findIdx? fun e => knd.is k e.key) = some i := by rw [← hi]; obtain ⟨l⟩ := es; simp
      have := hp.modify hn hl v
      obtain ⟨l⟩ := es
      simpa using this
    · rw [stored, if_pos (any_of_findIdx_some (hidx ▸ hi)), keys_map_store]; exact hn
  | none =>
    have hnot : k ∉ kvs.map (·.1) := not_mem_of_findIdx_none (hidx ▸ hi)
    have hany : ¬ (kvs.any fun kv => decide (kv.1 = k)) = true := by
      rw [List.any_eq_true]; rintro ⟨kv, hkv, he⟩
      exact hnot (List.mem_map.mpr ⟨kv, hkv, of_decide_eq_true he⟩)
    refine wpAny_updateDictKeys (hz := hes) ho hd (hQ _ ⟨_, _, ep + 1, Heap.get?_update_self _ ho (Obj.isFreed_of_dict (Obj.data_mapDictKeys hd _)),
      hc.mapDictKeys _, Obj.data_mapDictKeys hd _, hk.push hkey _, ?_, ?_⟩ (Heap.SameBut.update ..))
    · rw [stored, if_neg hany]
      have := hp.append hkey (knd.hash k) v
      obtain ⟨l⟩ := es
      simpa using this
    · rw [stored, if_neg hany, List.map_append, List.nodup_append]
      refine ⟨hn, by simp, ?_⟩
      intro a ha b hb
      simp only [List.map_cons, List.map_nil, List.mem_singleton] at hb
      subst hb
      exact fun e => hnot (e ▸ ha)
theorem wpAny_mergeMapping {d o : Addr} {kvs more : List (K × Value)} {Q : Unit → Shared → Prop} (hdo : d ≠ o) (hoS : (o == sysModules) = false)
    (hd : s.heap.DictOf knd d kvs) (ho : s.heap.DictOf knd o more)
    (hQ : ∀ h', h'.DictOf knd d (merged kvs more) → h'.DictOf knd o more → Heap.SameBut d s.heap h' → Q () { s with heap := h' })
    (hsz : kvs.length + more.length ≤ sizeLine := by size_fits) :
    wpAny (model prog w) A (mergeMapping d (.ref o) false) Q E s := by
  obtain ⟨od, esd, epd, hod, hcd, hdd, hkd, hpd, hnd⟩ := id hd
  obtain ⟨oo, eso, epo, hoo, hco, hdo', hko, hpo, hno⟩ := id ho
  unfold mergeMapping
  refine wpAny_bind (wpAny_isInstance ho.typeIs isSubtype_dict_dict ?_)
  simp only [if_true]
  refine wpAny_bind (wpAny_specialOf ho.typeIs F.slot_dict_iter.lookup ?_)
  simp only [beq_self_eq_true, pure_bind]
  rw [if_neg (by rw [hoS]; exact Bool.false_ne_true)]
  have hlen : more.length = eso.size := by rw [← hpo.length]; simp
  simp only [Bool.false_eq_true, if_false]
  have loop : wpAny (model prog w) A (do
      let l ← dictEntries o
      let epoch ← dictEpoch o
      forIn (List.range l.size) PUnit.unit fun i (_ : PUnit) => (do
          let l' ← dictEntries o
          match l'[i]? with
            | some e => do
              holding [e.key, e.val] (dictPut d e.hash e.key e.val)
              let ep' ← dictEpoch o
              if (ep' != epoch) = true then do
                  (unsupported "dict.changed-during-merge" : Sem PUnit)
                  pure (ForInStep.yield PUnit.unit)
                else pure (ForInStep.yield PUnit.unit)
            | _ => do
              (unsupported "dict.changed-during-merge" : Sem PUnit)
              pure (ForInStep.yield PUnit.unit) : Sem (ForInStep PUnit))
      pure ()) Q E s := by
    refine wpAny_bind (wpAny_dictEntries hoo hdo' ?_)
    refine wpAny_bind (wpAny_dictEpoch hoo hdo' ?_)
    refine wpAny_bind ?_
    refine wpAny_forIn_list _
      (fun rest _ s' => ∃ h' i, s' = { s with heap := h' } ∧ rest = List.range' i (eso.size - i) ∧ i ≤ eso.size ∧ h'.DictOf knd d (merged kvs (more.take i)) ∧ h'.get? o = some oo ∧ Heap.SameBut d s.heap h')
      _ ?_ ?_ _ _ ⟨s.heap, 0, rfl, by simp [List.range_eq_range'], Nat.zero_le _, by simpa [merged] using hd, hoo, Heap.SameBut.refl _ _⟩
    · rintro x rest b s' ⟨h', i, rfl, hr, hi, hd', hoo', hs'⟩
      have hlt : i < eso.size := by
        rcases Nat.lt_or_ge i eso.size with h | h
        · exact h
        · rw [Nat.sub_eq_zero_of_le h] at hr; simp at hr
      obtain ⟨rfl, hrest⟩ : x = i ∧ rest = List.range' (i + 1) (eso.size - (i + 1)) := by
        have e : eso.size - i = (eso.size - (i + 1)) + 1 := by omega
        rw [e, List.range'_succ] at hr
        injection hr with h1 h2
        exact ⟨h1, h2⟩
      refine wpAny_bind (wpAny_dictEntries hoo' hdo' ?_)
      rw [Array.getElem?_eq_getElem hlt]
      obtain ⟨kv, hkv⟩ : ∃ kv, more[x]? = some kv := ⟨more[x]'(by rw [hlen]; exact hlt), List.getElem?_eq_getElem _⟩
      obtain ⟨k, v⟩ := kv
      obtain ⟨hkey, hval⟩ := hpo.get? (e := eso[x]) (by simp [hlt]) hkv
      obtain ⟨k', hkey', hhash⟩ := hko eso[x] (Array.getElem_mem hlt)
      obtain rfl : k' = k := knd.inj _ _ _ hkey' hkey
      show wpAny _ _ (holding [eso[x].key, eso[x].val] (dictPut d eso[x].hash eso[x].key eso[x].val) >>= _) _ _ _
      rw [hhash, hval]
      have hmx : (merged kvs (more.take x)).length ≤ sizeLine := by
        have e1 := merged_length_le kvs (more.take x)
        have e2 : (more.take x).length ≤ more.length := by rw [List.length_take]; omega
        omega
      refine wpAny_bind (wpAny_holding (wpAny_dictPut_pairs (hsz := hmx) hkey hd' fun h'' hd'' hs'' => ?_))
      have hoo'' : h''.get? o = some oo := (hs''.2 o (Ne.symm hdo)).trans hoo'
      refine wpAny_bind (wpAny_dictEpoch hoo'' hdo' ?_)
      rw [if_neg (by simp)]
      exact wpAny_pure ⟨h'', x + 1, rfl, hrest, hlt, by rw [merged_take_succ kvs more x (k', v) hkv]; exact hd'', hoo'', hs'.trans hs''⟩
    · rintro b s' ⟨h', i, rfl, hr, hi, hd', hoo', hs'⟩
      have hin : i = eso.size := by
        rcases Nat.lt_or_ge i eso.size with h | h
        · have e : eso.size - i = (eso.size - (i + 1)) + 1 := by omega
          rw [e, List.range'_succ] at hr; exact nomatch hr
        · exact Nat.le_antisymm hi h
      refine wpAny_pure (hQ h' ?_ ⟨oo, eso, epo, hoo', hco, hdo', hko, hpo, hno⟩ hs')
      rw [hin, ← hlen, List.take_length] at hd'; exact hd'
  refine wpAny_bind (wpAny_dictEntries hod hdd ?_)
  split
  · refine wpAny_bind (wpAny_dictEntries hoo hdo' ?_)
    refine wpAny_bind (wpAny_of_eq (a := PUnit.unit) ?_ loop)
    rw [← Array.forIn_toList]
    refine forIn_yield_id _ fun e he c => ?_
    obtain ⟨k, hkey, _⟩ := hko e (Array.mem_toList_iff.mp he)
    have z := knd.byValue k _ hkey
    cases q : e.key with
    | ref a => rw [q] at z; exact absurd z Bool.false_ne_true
    | _ => rfl
  · exact loop

theorem forIn_gatherM (m : Option Addr) (f : (Option (Sem Value) × Sem Value) → (Option Addr × List (Sem Value × Sem Value)) → Sem (ForInStep (Option Addr × List (Sem Value × Sem Value))))
    (hf : ∀ (p : Sem Value × Sem Value) (run : List (Sem Value × Sem Value)), run.length + 1 < 17 → f (some p.1, p.2) (m, run) = pure (.yield (m, run ++ [p]))) :
    ∀ (items run : List (Sem Value × Sem Value)), run.length + items.length < 17 → forIn (items.map fun p => (some p.1, p.2)) (m, run) f = pure (m, run ++ items)
  | [], run, _ => by simp
  | p :: rest, run, h => by
    rw [List.map_cons, List.forIn_cons, hf p run (by simp at h; omega), pure_bind]
    have := forIn_gatherM m f hf rest (run ++ [p]) (by simp at h ⊢; omega)
    simpa using this
/-- a dict display of all pairs of v, then of some written ones -/
theorem wpAny_dictDisplay_spread {v : Sem Value} {pairs : List (Sem Value × Sem Value)} {Q : Value → Shared → Prop} (h0 : pairs ≠ []) (hlen : pairs.length < 17)
    (h : wpAny (model prog w) A v (fun m s₁ => ∃ o kvs, m = .ref o ∧ s.heap.objs.size ≠ o ∧ (o == sysModules) = false ∧ s₁.heap.DictOf knd s.heap.objs.size [] ∧ s₁.heap.DictOf knd o kvs ∧ kvs.length ≤ sizeLine ∧
      ∀ h', h'.DictOf knd s.heap.objs.size (merged [] kvs) → Heap.SameBut s.heap.objs.size s₁.heap h' → wpAny (model prog w) A (subDict pairs) (fun q s₂ => ∃ kvs2 more, s.heap.objs.size ≠ q ∧ (q == sysModules) = false ∧ s₂.heap.DictOf knd s.heap.objs.size kvs2 ∧ s₂.heap.DictOf knd q more ∧ kvs2.length + more.length ≤ sizeLine ∧
        ∀ h', h'.DictOf knd s.heap.objs.size (merged kvs2 more) → Heap.SameBut s.heap.objs.size s₂.heap h' → Q (.ref s.heap.objs.size) { s₂ with heap := h' }) E { s₁ with heap := h' }) E
      { s with heap := s.heap.push { cls := .type "dict", data := .dict #[] } }) :
    wpAny (model prog w) A (dictDisplay ((none, v) :: pairs.map fun p => (some p.1, p.2))) Q E s := by
  unfold dictDisplay
  dsimp only
  rw [List.forIn_cons]
  simp only [List.isEmpty_nil, if_true, pure_bind, bind_assoc]
  refine wpAny_bind (wpAny_alloc ?_)
  refine wpAny_bind (wpAny_holding ?_)
  refine wpAny_mono h (fun m s₁ hm => ?_) fun _ _ e => e
  obtain ⟨o, kvs, rfl, hdo, hoS, hd, ho, hz, k⟩ := hm
  refine wpAny_bind (wpAny_onRaise (wpAny_tryCatch (wpAny_onRaise (wpAny_holding (wpAny_mergeMapping (hsz := by rw [List.length_nil]; omega) hdo hoS hd ho fun h' hd' ho' hs' => ?_)))))
  rw [forIn_gatherM (some s.heap.objs.size) _ (fun p run h => by
    have hne : ((run ++ [(p.1, p.2)]).length == 17) = false := by simp; omega
    simp only [hne, Bool.false_eq_true, if_false]) pairs [] (by simpa using hlen)]
  have hne : pairs.isEmpty = false := by cases pairs <;> first | rfl | exact absurd rfl h0
  simp only [List.nil_append, pure_bind, hne, Bool.false_eq_true, if_false, bind_assoc]
  refine wpAny_bind (wpAny_holding (wpAny_mono (k h' hd' hs') (fun q s₂ h₂ => ?_) fun _ _ e => e))
  obtain ⟨kvs2, more, hdq, hqS, hd2, hq2, hz2, k2⟩ := h₂
  refine wpAny_bind (wpAny_onRaise (wpAny_holding (wpAny_mergeMapping (hsz := hz2) hdq hqS hd2 hq2 fun h'' hd'' _ hs'' => ?_)))
  exact wpAny_pure (k2 h'' hd'' hs'')
end
end PySem
namespace L2.Hx
open PySem PySem.Spec PyProof.Rows
/-- {**d, k: v, ..} with keys ints and texts: the new dict p, then all of d in it, then the written pairs in a dict q of their own, then these in p -/
def tSpread (te : TE) (trs : List (TE × TE)) : TE := fun σ H Q => ∀ p, H p = none → te σ (upd H p (.dK [])) fun v H1 => ∃ (a : Addr) (kvs : List (Key × V)), v = .ref a ∧ H1 p = some (.dK []) ∧ H1 a = some (.dK kvs) ∧ p ≠ a ∧ kvs.length ≤ 1000 ∧
  ∀ q, upd H1 p (.dK kvs) q = none → tPairs trs σ (upd (upd H1 p (.dK kvs)) q (.dK [])) fun ps H3 => H3 q = some (.dK []) ∧ H3 p = some (.dK kvs) ∧ ∃ more : List (Key × V), ps = more.map (fun kv => (kV kv.1, kv.2)) ∧ more.length ≤ 15 ∧
    Q (.ref p) (upd (upd H3 q (.dK (mergeK [] more))) p (.dK (mergeK kvs (mergeK [] more))))
theorem pe_spread {X : Cx} {pos : Pos} {e : Expr} {keys : List (Option Expr)} {values : List Expr} {te : TE} {trs : List (TE × TE)} (he : PE X e te) (h : PPs X pos keys values trs) (hall : keys.all (·.isSome) = true) (hl : keys.length = values.length) (h0 : keys ≠ [])
    (h15 : keys.length ≤ 15) : PE X (.Dict (none :: keys) (e :: values) pos) (tSpread te trs) := by
  refine ⟨fun pins s σ H Q I q => ?_⟩
  have hn := I.hok.fresh (Nat.le_refl s.heap.objs.size)
  have I1 := I.laid (a := s.heap.objs.size) (o := .dK []) (h' := s.heap.push { cls := .type "dict", data := .dict #[] }) (t' := s.toks) (fun _ _ q => Heap.get?_push_of_some _ q) (Nat.le_refl _) (dk_empty s.heap I.big)
  have hpl := pairTrees_length keys values X.env pos hall hl
  have hp0 : pairTrees keys values X.env pos ≠ [] := by
    intro e
    rw [e] at hpl
    exact h0 (List.length_eq_zero_iff.mp hpl.symm)
  have shape : (evalEachOpt (none :: keys) X.env).zip ((evalEach (e :: values) X.env).map fun v => do let x ← v; standAt pos; pure x) = (none, (do let x ← eval e X.env; standAt pos; pure x)) :: (pairTrees keys values X.env pos).map fun p => (some p.1, p.2) := by
    show (none, (do let x ← eval e X.env; standAt pos; pure x)) :: (evalEachOpt keys X.env).zip ((evalEach values X.env).map fun v => do let x ← v; standAt pos; pure x) = _
    rw [zip_pairTrees keys values X.env pos hall hl]
  rw [arm_eval_Dict, shape]
  refine wpAny_bind (wpAny_standAt (wpAny_dictDisplay_spread (knd := mixKind X.prog X.w) hp0 (by omega) ?_))
  refine wpAny_bind (thn (he.run pins _ σ _ _ I1 (q _ hn)) fun u s1 ⟨x, H1, J1, rx, a, kvs, ex, hp, ha, hpa, hz, k⟩ => wpAny_bind (wpAny_standAt (wpAny_pure ?_)))
  subst ex
  obtain rfl : u = Value.ref a := rx
  obtain ⟨z, hd, vs, rel, dd⟩ := dk_of J1.hok ha
  obtain ⟨z0, hd0, vs0, r0, dd0⟩ := dk_of J1.hok hp
  cases r0
  have lvs : kvs.length = vs.length := Paired.length rel
  have hm : merged [] vs = vs := by
    obtain ⟨_, _, _, _, _, _, _, _, hno⟩ := id dd
    exact merged_nil_of_nodup vs hno
  have big : (2000 : Nat) ≤ sizeLine := by decide
  refine ⟨a, vs, rfl, hpa, hd, dd0, dd, by omega, fun h' dd' hs' => ?_⟩
  rw [hm] at dd'
  have he' : ∃ q, h'.get? s.heap.objs.size = some q := let ⟨q, _, _, hq, _⟩ := dd'; ⟨q, hq⟩
  have J2 : Inv X pins σ (upd H1 s.heap.objs.size (.dK kvs)) { s1 with heap := h', toks := s1.toks } := d_write J1 (by rw [hp]; exact True.intro) hs' he' (dk_new z hd0 rel dd')
  have hq := J2.hok.fresh (Nat.le_refl h'.objs.size)
  have J3 := J2.laid (a := h'.objs.size) (o := .dK []) (h' := h'.push { cls := .type "dict", data := .dict #[] }) (t' := s1.toks) (fun _ _ q => Heap.get?_push_of_some _ q) (Nat.le_refl _) (dk_empty h' J2.big)
  refine wpAny_subDict (knd := mixKind X.prog X.w) (by omega) (thn (h.run pins _ σ _ _ J3 (k _ hq)) fun ws s2 ⟨ps, H3, J4, rel4, e4, e5, more, ep, lk, q2⟩ => ?_)
  subst ep
  obtain ⟨rs, c, rk⟩ := carries_of (P := X.prog) (w := X.w) rel4
  obtain ⟨z4, hd4, vs4, r4, dd4⟩ := dk_of J4.hok e4
  cases r4
  refine ⟨rs, c, dd4, fun h3 dd3 hs3 => ?_⟩
  have hz3 : (mergeK [] more).length ≤ 15 := by
    have h1 := length_mergeK more []
    rw [List.length_nil] at h1
    omega
  have he3 : ∃ q, h3.get? h'.objs.size = some q := let ⟨q, _, _, hq, _⟩ := dd3; ⟨q, hq⟩
  have npq : s.heap.objs.size ≠ h'.objs.size := fun e => by
    have := hq
    rw [← e, upd_same] at this
    cases this
  have J5 : Inv X pins σ (upd H3 h'.objs.size (.dK (mergeK [] more))) { s2 with heap := h3, toks := s2.toks + ws.length } := d_write J4 (by rw [e4]; exact True.intro) hs3 he3 (dk_new (by omega) hd4 (rk.merge .nil) dd3)
  have e6 : upd H3 h'.objs.size (.dK (mergeK [] more)) s.heap.objs.size = some (.dK kvs) := by rw [upd_ne npq]; exact e5
  obtain ⟨z6, hd6, vs6, r6, dd6⟩ := dk_of J5.hok e6
  have l6 : kvs.length = vs6.length := Paired.length r6
  have l3 : (mergeK [] more).length = (merged [] rs).length := Paired.length (rk.merge .nil)
  refine ⟨vs6, merged [] rs, npq, hd4, dd6, dd3, by omega, fun h4 dd7 hs4 => ⟨.ref s.heap.objs.size, _, ?_, rfl, q2⟩⟩
  have he4 : ∃ q, h4.get? s.heap.objs.size = some q := let ⟨q, _, _, hq, _⟩ := dd7; ⟨q, hq⟩
  have hz4 : (mergeK kvs (mergeK [] more)).length ≤ sizeLine := by
    have h1 := length_mergeK (mergeK [] more) kvs
    omega
  exact d_write J5 (by rw [e6]; exact True.intro) hs4 he4 (dk_new hz4 hd0 ((rk.merge .nil).merge r6) dd7)
end L2.Hx

/-! Defs that raise, as promises; calls of them in a try; an own error class without arguments. -/
namespace L2.Hx
open PySem PySem.Spec PyProof.Rows
section
variable {P : Program} {w : World} {K : PySem.W.Frag} {mg : Str → Option Value} {base : Heap} {f : Addr} {fd : FuncData} {ps : List Str} {sp : Sp} {k : Nat}
/-- as okG, for a def that may raise -/
theorem okGX {x qual : Str} {st : Stmt} {N : List Str} (F : Fun K x qual st f fd) (S : FnScope N ps (defScope st)) (hn : ∀ vs H Q E, sp vs H Q E → vs.length = ps.length)
    (hbody : ∀ (cdv : Value) (A : Around) (outer : List Env) (s : Shared) (H : Hp) (vs : List V) (Q : VK) (E : XK), (A.deeper (envOfC qual (defScope st) s.heap.objs.size f cdv)).guards = some [] → Room k (A.deeper (envOfC qual (defScope st) s.heap.objs.size f cdv)) → sp vs H Q E →
      ∃ t, PSs (cxOf (L2.CX P w) P w K mg base N qual (defScope st) f cdv A outer s H E) (defBody st) t ∧ t { nx := fun _ H' => Q .non H', rt := Q } (start N vs) H) :
    FnG P w K mg base (L2.CX P w) (k + 1) f fd ps sp := by
  obtain ⟨oc, od, kV, doc, pm, an, cdv, ct, osl, rfl, lk, hcd⟩ := F.ex
  exact fng_of lk hcd S hn fun A outer s H vs Q E hgd hr hsp => hbody cdv A outer s H vs Q E hgd hr hsp
/-- a def that may raise, with its promise and its text -/
def DfX (P : Program) (w : World) (K : PySem.W.Frag) (mg : Str → Option Value) (base : Heap) (k : Nat) (x : Str) (st : Stmt) (ps : List Str) (sp : Sp) : Prop := ∃ (f : Addr) (fd : FuncData), FnG P w K mg base (L2.CX P w) k f fd ps sp ∧ Src K mg x st ps f fd
theorem DfX.mk' {x : Str} {st : Stmt} {N : List Str} {f : Addr} {fd : FuncData} (S : Src K mg x st ps f fd) (sc : FnScope N ps (defScope st)) (hn : ∀ vs H Q E, sp vs H Q E → vs.length = ps.length)
    (hbody : ∀ (cdv : Value) (A : Around) (outer : List Env) (s : Shared) (H : Hp) (vs : List V) (Q : VK) (E : XK), (A.deeper (envOfC x (defScope st) s.heap.objs.size f cdv)).guards = some [] → Room k (A.deeper (envOfC x (defScope st) s.heap.objs.size f cdv)) → sp vs H Q E →
      ∃ t, PSs (cxOf (L2.CX P w) P w K mg base N x (defScope st) f cdv A outer s H E) (defBody st) t ∧ t { nx := fun _ H' => Q .non H', rt := Q } (start N vs) H) : DfX P w K mg base (k + 1) x st ps sp := ⟨f, fd, okGX S.fn sc hn hbody, S⟩
/-- .. by keywords -/
theorem DfX.kw {x : Str} {st : Stmt} {ks : List Str} {g : {α : Type} → List α → List α} (D : DfX P w K mg base k x st ps sp) (h : ∀ (kV doc pm : Value) (an : Option Addr) (cdv ct : Value) (ws : List Value), ws.length = ps.length → bindArgs (PySem.W.fnOf x x (defArgs st) (defBody st) (defScope st) .none kV doc pm an cdv ct) ⟨[], ks.zip ws⟩ = pure (ps.zip (g ws))) :
    ∃ f fd, FnG P w K mg base (L2.CX P w) k f fd ps sp ∧ mg x = some (.ref f) ∧ PySem.W.keepIn K (.ref f) = true ∧ KwBinds K fd ps ks g := by
  obtain ⟨f, fd, a, S⟩ := D
  refine ⟨f, fd, a, S.at_, S.fn.kp, ?_⟩
  obtain ⟨oc, od, kV, doc, pm, an, cdv, ct, osl, rfl, lk, hcd⟩ := S.fn.ex
  exact fun s ws _ hl => .of_eq (h kV doc pm an cdv ct ws hl)
end
section
variable {X : Cx} {CX : CXT} {k j : Nat} {f : Addr} {fd : FuncData} {ps ks : List Str} {sp : Sp} {E : St → XK} {x : Str} {st : Stmt} {p pos : Pos} {e : Expr} {es : List Expr} {kws : List Keyword} {t tk : TA}
theorem run_gS {pins : List (Addr × Obj)} {σ : St} {H : Hp} {s : Shared} {Q : VK} {us : List Value} {vs : List V} (F : FnG X.prog X.w X.K X.mg X.base CX k f fd ps sp) (hgd : X.A.guards = some []) (hr : Room k X.A) (hb : Binds X.K fd ps []) (hx : PassesAt CX X σ (E σ))
    (I : Inv X pins σ H s) (r : Vals vs us) (h : sp vs H Q (E σ)) : wpAny (model X.prog X.w) X.A (call (.ref f) us) (EP X pins σ Q) X.xe s := by
  have hl : us.length = ps.length := by rw [← r.length]; exact F.ln _ _ _ _ h
  have b := hb s us I.kIn (by rw [List.append_nil]; exact hl)
  rw [List.append_nil] at b
  refine wpAny_call (codeAny_mono (F.go X.A X.stack s H ⟨us, []⟩ us vs Q (E σ) hgd hr I.env0 b r h) fun z s' hq => ?_)
  cases z with
  | error e => exact hx pins H s e s' I hq
  | ok fl =>
    cases fl with
    | ret u => exact I.after hq
    | next => exact hq.elim
    | brk => exact hq.elim
    | cont => exact hq.elim
theorem pe_dS (F : DfX X.prog X.w X.K X.mg X.base k x st ps sp) (hgd : X.A.guards = some []) (hr : Room j X.A) (hx : ∀ σ, PassesAt (L2.CX X.prog X.w) X σ (E σ)) (ha : PA X (e :: es) t) (hj : k ≤ j := by first | exact Nat.le_refl _ | decide) (hg : Gl X x := by rfl)
    (hdb : (x == ("__debug__" : Str)) = false := by decide) (he : starEach (e :: es) X.env = (false, eval e X.env) :: starEach es X.env := by rfl) (hpl : (backTo pos (starEach es X.env)).any (·.1) = false := by rfl) :
    PE X (.Call (.Name x p) (e :: es) [] pos) (tCallS sp E t) := by
  obtain ⟨f, fd, a, S⟩ := F
  exact ⟨fun pins s σ H Q I h => wpAny_Call_Name_kw (ld_glob I hg S.at_ (PySem.W.callWith_K (h₀ := X.base) I.ok.mod.kin S.fn.kp (thn (ha.run pos pins s σ H _ I h) fun us s1 ⟨vs, H1, I1, r, q⟩ => ⟨I1.kIn, run_gS a hgd (hr.mono hj) S.bd (hx σ) I1 r q⟩) he hpl) hdb)⟩
def tKwS (sp : Sp) (g : {α : Type} → List α → List α) (n : Nat) (E : St → XK) (tk : TA) : TE := fun σ H Q => tk σ H fun zs H2 => zs.length = n ∧ sp (g zs) H2 Q (E σ)
theorem pe_kwS {g : {α : Type} → List α → List α} (F : ∃ f fd, FnG X.prog X.w X.K X.mg X.base (L2.CX X.prog X.w) k f fd ps sp ∧ X.mg x = some (.ref f) ∧ PySem.W.keepIn X.K (.ref f) = true ∧ KwBinds X.K fd ps ks g) (hgd : X.A.guards = some []) (hr : Room j X.A) (hx : ∀ σ, PassesAt (L2.CX X.prog X.w) X σ (E σ)) (hkw : PK X kws tk)
    (hrel : ∀ {zs : List V} {ws : List Value}, Vals zs ws → Vals (g zs) (g ws)) (hj : k ≤ j := by first | exact Nat.le_refl _ | decide)
    (hg : Gl X x := by rfl) (hall : (backToKw pos (keywordEach kws X.env)).all (·.1.isSome) = true := by rfl) (hks : (backToKw pos (keywordEach kws X.env)).filterMap (·.1) = ks := by rfl) (hdb : (x == ("__debug__" : Str)) = false := by decide)
    (hpl : ((backTo pos (starEach [] X.env)).any (·.1) || (backToKw pos (keywordEach kws X.env)).any (·.1.isNone)) = false := by rfl) :
    PE X (.Call (.Name x p) [] kws pos) (tKwS sp g ps.length E tk) := by
  obtain ⟨f, fd, F, hm, hk, hb⟩ := F
  refine ⟨fun pins s σ H Q I h => wpAny_Call_Name_kw (ld_glob I hg hm ?_ hdb)⟩
  refine PySem.W.callWith_KW0 (h₀ := X.base) I.ok.mod.kin hk hall ?_ hpl
  refine thn (hkw.run pos pins s σ H _ I h) fun ws s2 ⟨zs, H2, I2, rz, hz, q2⟩ => ⟨I2.kIn, ?_⟩
  rw [hks]
  have rg := hrel rz
  refine wpAny_call (codeAny_mono (F.go X.A X.stack s2 H2 ⟨[], ks.zip ws⟩ (g ws) (g zs) Q (E σ) hgd (hr.mono hj) I2.env0 (hb s2 ws I2.kIn (rz.length.symm.trans hz)) rg q2) fun z s3 hq => ?_)
  cases z with
  | error er => exact hx σ pins H2 s2 er s3 I2 hq
  | ok fl =>
    cases fl with
    | ret u => exact I2.after hq
    | next => exact hq.elim
    | brk => exact hq.elim
    | cont => exact hq.elim
end
/-- C(), C an own exception class without own __init__ -/
theorem pmk_own0 {X : Cx} {C : Addr} {bmB : List Value} {B newId initId : String} {x : Str} {p pos : Pos} (F : ExcBaseFacts B newId initId bmB) (q : PySem.W.excIn X.K C bmB newId = true) (gC : X.mg x = some (.ref C)) (kC : PySem.W.keepIn X.K (.ref C) = true) (r : Raises X (.ref C)) (hg : Gl X x := by rfl)
    (hdb : (x == ("__debug__" : Str)) = false := by decide) : PMk X (.Call (.Name x p) [] [] pos) (fun _ H Q => Q (.ref C) none H) := by
  intro pins s σ H Q I h
  refine wpAny_Call_Name_kw (ld_glob I hg gC ?_ hdb)
  refine PySem.W.callWith_K0 I.kIn kC ?_
  show wpAny _ _ (call (.ref C) []) _ _ _
  obtain ⟨bm, N, nm, qn, bs, hdct, sn, sub, ab, col, dd, k0, k1, k2, k3, k5, mN, hC, hN, hni, T⟩ := exc_obj I.kIn q
  refine wpAny_call_exc_subT F T hC hN hni (fun h' e hm => ?_) (by show 0 ≤ sizeLine; exact Nat.zero_le _)
  exact mk_of I hm r h (I.hok.gone hm.new)
/-- what the top has of an own error class over ValueError, told of a frag -/
structure OwnExc (K : PySem.W.Frag) (mg : Str → Option Value) (x : Str) (C : Addr) : Prop where
  at_ : mg x = some (.ref C)
  exc : PySem.W.excIn K C [.type "ValueError", .type "Exception", .type "BaseException", .type "object"] "ValueError.__new__" = true
  kp : PySem.W.keepIn K (.ref C) = true
  bs : PySem.W.subIn K (.ref C) (.type "BaseException") = some true
  ty : PySem.W.typeIn K (.ref C) = some (.type "type")
  hd : PySem.W.hasDictIn K C = true
  self : PySem.W.subIn K (.ref C) (.ref C) = some true
  is_ : ExcC K C
theorem OwnExc.exm {K : PySem.W.Frag} {mg : Str → Option Value} {x : Str} {C : Addr} (T : OwnExc K mg x C) : PySem.W.exmOne K (.ref C) (.ref C) = some true := PySem.W.exm_ref T.bs T.hd T.ty T.self
/-- raise C() -/
theorem ps_raise0 {X : Cx} {W : WX} {C : Addr} {x : Str} {p pos pos2 : Pos} (hc : X.calm = true) (tk : Takes X W) (T : OwnExc X.K X.mg x C) (hg : Gl X x := by rfl) (hdb : (x == ("__debug__" : Str)) = false := by decide) :
    PS X (.Raise (some (.Call (.Name x p) [] [] pos)) none pos2) (fun _ σ H => W (.ref C) none σ H) := ps_raise hc tk (pmk_own0 PySem.F.excBase_ValueError T.exc T.at_ T.kp (raises_own T.bs T.ty) hg hdb)
end L2.Hx

/-! Clauses of cases: its defs by their places. -/
namespace L2.Hx
open PySem PySem.Spec PyProof.Rows
abbrev pw : Program := PySem.Challenge.pw_heldapart_k66_whole_clauses_of_cases
def top (i : Nat) : Stmt := pw.main.body.getD i (.Pass ⟨0, 0, 0, 0⟩)
abbrev s_clause_of : Stmt := top 4
theorem sc_clause_of : FnScope ["names", "case", "lots", "arrows", "firsts", "lot", "looks", "name", "first", "at", "other", "words", "begin", "kind", "end"] ["names", "case"] (defScope s_clause_of) := ⟨rfl, rfl, rfl, by decide +kernel, rfl, by decide +kernel, by decide +kernel⟩
abbrev s_l_deck : Stmt := top 6
theorem sc_l_deck : FnScope ["script", "cells", "stirred", "cell"] ["script"] (defScope s_l_deck) := ⟨rfl, rfl, rfl, by decide +kernel, rfl, by decide +kernel, by decide +kernel⟩
abbrev s_l_draw : Stmt := top 7
theorem sc_l_draw : FnScope ["deck", "many", "cell", "mixed"] ["deck", "many"] (defScope s_l_draw) := ⟨rfl, rfl, rfl, by decide +kernel, rfl, by decide +kernel, by decide +kernel⟩
abbrev s_l_pick : Stmt := top 8
theorem sc_l_pick : FnScope ["deck", "items"] ["deck", "items"] (defScope s_l_pick) := ⟨rfl, rfl, rfl, by decide +kernel, rfl, by decide +kernel, by decide +kernel⟩
abbrev s_l_mixed : Stmt := top 9
theorem sc_l_mixed : FnScope ["deck", "items", "rest", "got"] ["deck", "items"] (defScope s_l_mixed) := ⟨rfl, rfl, rfl, by decide +kernel, rfl, by decide +kernel, by decide +kernel⟩
abbrev s_l_worth : Stmt := top 10
theorem sc_l_worth : FnScope ["store", "worth"] ["store"] (defScope s_l_worth) := ⟨rfl, rfl, rfl, by decide +kernel, rfl, by decide +kernel, by decide +kernel⟩
abbrev s_l_takes : Stmt := top 11
theorem sc_l_takes : FnScope ["part", "worth", "cells", "here", "end", "got"] ["part", "worth", "cells"] (defScope s_l_takes) := ⟨rfl, rfl, rfl, by decide +kernel, rfl, by decide +kernel, by decide +kernel⟩
abbrev s_l_is_so : Stmt := top 12
theorem sc_l_is_so : FnScope ["look", "worth"] ["look", "worth"] (defScope s_l_is_so) := ⟨rfl, rfl, rfl, by decide +kernel, rfl, by decide +kernel, by decide +kernel⟩
abbrev s_l_dealt : Stmt := top 13
theorem sc_l_dealt : FnScope ["clause", "worth", "cells", "got", "look", "part", "taken", "own"] ["clause", "worth", "cells"] (defScope s_l_dealt) := ⟨rfl, rfl, rfl, by decide +kernel, rfl, by decide +kernel, by decide +kernel⟩
abbrev s_l_is_true : Stmt := top 14
theorem sc_l_is_true : FnScope ["saying", "worth", "cells", "clause", "dealt"] ["saying", "worth", "cells"] (defScope s_l_is_true) := ⟨rfl, rfl, rfl, by decide +kernel, rfl, by decide +kernel, by decide +kernel⟩
abbrev s_l_numbered : Stmt := top 15
theorem sc_l_numbered : FnScope ["home", "ways", "rows", "name", "order", "row", "spot", "begin", "seen", "here", "places", "lots", "own"] ["home", "ways"] (defScope s_l_numbered) := ⟨rfl, rfl, rfl, by decide +kernel, rfl, by decide +kernel, by decide +kernel⟩
abbrev s_l_any_case : Stmt := top 16
theorem sc_l_any_case : FnScope ["deck", "names", "nameless", "home", "top", "name", "spots", "ways", "spot", "end", "kind", "turn", "case", "met", "begin"] ["deck", "names", "nameless"] (defScope s_l_any_case) := ⟨rfl, rfl, rfl, by decide +kernel, rfl, by decide +kernel, by decide +kernel⟩
abbrev s_l_heap : Stmt := top 17
theorem sc_l_heap : FnScope ["deck", "case", "most", "lots", "cells", "pool", "far", "values", "lot", "begin", "kind", "end", "here", "turn", "further", "store", "spot", "name"] ["deck", "case", "most"] (defScope s_l_heap) := ⟨rfl, rfl, rfl, by decide +kernel, rfl, by decide +kernel, by decide +kernel⟩
abbrev s_l_homes : Stmt := top 18
theorem sc_l_homes : FnScope ["names", "got", "name", "elder", "home", "spot", "fresh"] ["names"] (defScope s_l_homes) := ⟨rfl, rfl, rfl, by decide +kernel, rfl, by decide +kernel, by decide +kernel⟩
abbrev s_l_rows : Stmt := top 19
theorem sc_l_rows : FnScope ["spots", "got", "level", "elder", "row", "spot"] ["spots"] (defScope s_l_rows) := ⟨rfl, rfl, rfl, by decide +kernel, rfl, by decide +kernel, by decide +kernel⟩
abbrev s_l_put_in : Stmt := top 20
theorem sc_l_put_in : FnScope ["home", "ways", "part", "spots", "kind", "one", "other", "rows", "between", "spot", "row", "got", "fresh", "here"] ["home", "ways", "part", "spots"] (defScope s_l_put_in) := ⟨rfl, rfl, rfl, by decide +kernel, rfl, by decide +kernel, by decide +kernel⟩
abbrev s_l_pictures : Stmt := top 21
theorem sc_l_pictures : FnScope ["names", "saying", "got", "clause", "home", "look", "spots", "level", "part", "elder", "ways"] ["names", "saying"] (defScope s_l_pictures) := ⟨rfl, rfl, rfl, by decide +kernel, rfl, by decide +kernel, by decide +kernel⟩
abbrev s_l_clause_of : Stmt := top 22
theorem sc_l_clause_of : FnScope ["case", "lots", "arrows", "first", "lot", "looks", "name", "spot", "other", "words", "begin", "kind", "end"] ["case"] (defScope s_l_clause_of) := ⟨rfl, rfl, rfl, by decide +kernel, rfl, by decide +kernel, by decide +kernel⟩
abbrev s_l_heard : Stmt := top 23
theorem sc_l_heard : FnScope ["names", "case", "is_named", "refused"] ["names", "case", "is_named"] (defScope s_l_heard) := ⟨rfl, rfl, rfl, by decide +kernel, rfl, by decide +kernel, by decide +kernel⟩
abbrev s_law : Stmt := top 24
theorem sc_law : FnScope ["script", "deck", "turn", "letters", "names", "case", "known", "heard", "due", "store", "heap", "cases", "home", "ways"] ["script"] (defScope s_law) := ⟨rfl, rfl, rfl, by decide +kernel, rfl, by decide +kernel, by decide +kernel⟩
structure Txt (K : PySem.W.Frag) (mg : Str → Option Value) : Prop where
  b_ValueError : mg "ValueError" = none
  b_dict : mg "dict" = none
  b_enumerate : mg "enumerate" = none
  b_int : mg "int" = none
  b_isinstance : mg "isinstance" = none
  b_len : mg "len" = none
  b_list : mg "list" = none
  b_max : mg "max" = none
  b_range : mg "range" = none
  b_repr : mg "repr" = none
  b_set : mg "set" = none
  b_sorted : mg "sorted" = none
  b_tuple : mg "tuple" = none
  b_zip : mg "zip" = none
  e_Unfit : ∃ C CH, OwnExc K mg "Unfit" C ∧ mg "HeldError" = some (.ref CH) ∧ PySem.W.kitOne K (.ref C) (.ref CH) = some true
  d_clause_of : ∃ f fd, Src K mg "clause_of" s_clause_of ["names", "case"] f fd
  d_l_deck : ∃ f fd, Src K mg "_law_deck" s_l_deck ["script"] f fd
  d_l_draw : ∃ f fd, Src K mg "_law_draw" s_l_draw ["deck", "many"] f fd
  d_l_pick : ∃ f fd, Src K mg "_law_pick" s_l_pick ["deck", "items"] f fd
  d_l_mixed : ∃ f fd, Src K mg "_law_mixed" s_l_mixed ["deck", "items"] f fd
  d_l_worth : ∃ f fd, Src K mg "_law_worth" s_l_worth ["store"] f fd
  d_l_takes : ∃ f fd, Src K mg "_law_takes" s_l_takes ["part", "worth", "cells"] f fd
  d_l_is_so : ∃ f fd, Src K mg "_law_is_so" s_l_is_so ["look", "worth"] f fd
  d_l_dealt : ∃ f fd, Src K mg "_law_dealt" s_l_dealt ["clause", "worth", "cells"] f fd
  d_l_is_true : ∃ f fd, Src K mg "_law_is_true" s_l_is_true ["saying", "worth", "cells"] f fd
  d_l_numbered : ∃ f fd, Src K mg "_law_numbered" s_l_numbered ["home", "ways"] f fd
  d_l_any_case : ∃ f fd, Src K mg "_law_any_case" s_l_any_case ["deck", "names", "nameless"] f fd
  d_l_heap : ∃ f fd, Src K mg "_law_heap" s_l_heap ["deck", "case", "most"] f fd
  d_l_homes : ∃ f fd, Src K mg "_law_homes" s_l_homes ["names"] f fd
  d_l_rows : ∃ f fd, Src K mg "_law_rows" s_l_rows ["spots"] f fd
  d_l_put_in : ∃ f fd, Src K mg "_law_put_in" s_l_put_in ["home", "ways", "part", "spots"] f fd
  d_l_pictures : ∃ f fd, Src K mg "_law_pictures" s_l_pictures ["names", "saying"] f fd
  d_l_clause_of : ∃ f fd, Src K mg "_law_clause_of" s_l_clause_of ["case"] f fd
  d_l_heard : ∃ f fd, Src K mg "_law_heard" s_l_heard ["names", "case", "is_named"] f fd
  d_law : ∃ f fd, Src K mg "law" s_law ["script"] f fd
section
variable {X : Cx}
theorem pe_cI {x : Str} {i : Int} {pos : Pos} (h : ∃ t, X.mg x = some (.int i t)) (hg : Gl X x := by rfl) (hd : (x == ("__debug__" : Str)) = false := by decide) : PE X (.Name x pos) (tC (.int i)) := let ⟨t, h⟩ := h; pe_glob hg h ⟨t, rfl⟩ hd
theorem pe_cS {x y : Str} {pos : Pos} (h : ∃ t, X.mg x = some (.str y t)) (hg : Gl X x := by rfl) (hd : (x == ("__debug__" : Str)) = false := by decide) : PE X (.Name x pos) (tC (.str y)) := let ⟨t, h⟩ := h; pe_glob hg h ⟨t, rfl⟩ hd
theorem pe_cR {x : Str} {a : Addr} {pos : Pos} (h : X.mg x = some (.ref a)) (hg : Gl X x := by rfl) (hd : (x == ("__debug__" : Str)) = false := by decide) : PE X (.Name x pos) (tC (.ref a)) := pe_glob hg h rfl hd
theorem pe_bT {x : Str} {n : String} {pos : Pos} (h : X.mg x = none) (hv : bootBuiltins x = some (.type n)) (hg : Gl X x := by rfl) (hn : x ≠ "__name__" := by decide) (hd : (x == ("__debug__" : Str)) = false := by decide) : PE X (.Name x pos) (tC (.ty n)) := pe_bltn hg h hv rfl hn hd
end
end L2.Hx

/-! The deck, a list: a draw. -/
namespace L2.Hx
open PySem PySem.Spec PyProof.Rows
theorem dp_ints {K : PySem.W.Frag} {H : Hp} : ∀ ns : List Int, DpAll K H (ns.map V.int) (ns.map PyData.int)
  | [] => .nil
  | n :: ns => .cons (.int n) (dp_ints ns)
theorem shaped_ints (ns : List Int) : SeqAt.shaped (.list (ns.map PyData.int)) = true := by
  have h1 : ∀ ns : List Int, PyData.canLayAll0 (ns.map PyData.int) = true := fun ns => by
    induction ns with
    | nil => rfl
    | cons n ns ih => simpa [PyData.canLayAll0, PyData.canLay0] using ih
  have h2 : ∀ ns : List Int, PyData.depthAll (ns.map PyData.int) ≤ 1 := fun ns => by
    induction ns with
    | nil => simp [PyData.depthAll]
    | cons n ns ih =>
      simp only [List.map_cons, PyData.depthAll, PyData.depth]
      omega
  have a := h1 ns
  have b := h2 ns
  unfold SeqAt.shaped
  rw [Bool.and_eq_true]
  refine ⟨by simpa [PyData.canLay0] using a, decide_eq_true ?_⟩
  simp only [PyData.depth]
  omega
theorem eqv_nil (ns : List Int) : PyData.eqv (.list (ns.map PyData.int)) (.list []) = decide (ns = []) := by
  cases ns <;> simp [PyData.eqv, PyData.eqvAll]
theorem Wd.gset {p l : Addr} {G H : Hp} (W : Wd p l G H) (ns : List Int) (hz : ns.length ≤ 63) : Ext p l G H G (upd H l (.lst (ns.map V.int))) := by
  have ne := W.ne
  refine ⟨⟨fun b u q => ?_, W.gp, W.gl, ?_, ⟨ns, hz, upd_same⟩⟩, Same.refl G, fun b u _ n2 q => by rw [upd_ne n2]; exact q, fun _ _ _ g => g⟩
  · rw [upd_ne (ne_of_none q W.gl)]
    exact W.same b u q
  · obtain ⟨m, t, m0, m1, e⟩ := W.dk
    exact ⟨m, t, m0, m1, by rw [upd_ne ne]; exact e⟩
theorem Wd.dset {p l : Addr} {G H : Hp} (W : Wd p l G H) {m t : Int} (m0 : 0 ≤ m) (m1 : m < 4294967291) : Ext p l G H G (upd H p (.lst (deckL l m t))) := by
  have ne := W.ne
  refine ⟨⟨fun b u q => ?_, W.gp, W.gl, ⟨m, t, m0, m1, upd_same⟩, ?_⟩, Same.refl G, fun b u n1 _ q => by rw [upd_ne n1]; exact q, fun _ _ _ g => g⟩
  · rw [upd_ne (ne_of_none q W.gp)]
    exact W.same b u q
  · obtain ⟨ns, z, e⟩ := W.ls
    exact ⟨ns, z, by rw [upd_ne ne.symm]; exact e⟩

theorem deck_set2 (l : Addr) (m t u : Int) : (deckL l m t).set 2 (.int u) = deckL l m u := rfl
theorem atI_zero (x : V) (xs : List V) : atI (x :: xs) 0 = some x := by
  have h : (0 : Int) < ((x :: xs).length : Int) := by rw [List.length_cons]; omega
  unfold atI ixN
  rw [if_pos (Int.le_refl 0), if_pos h]
  rfl
theorem ixN_zero (x : V) (xs : List V) : ixN (x :: xs).length 0 = some 0 := by
  have h : (0 : Int) < ((x :: xs).length : Int) := by rw [List.length_cons]; omega
  unfold ixN
  rw [if_pos (Int.le_refl 0), if_pos h]
  rfl
theorem ints_tail (n : Int) (ns : List Int) : ((n :: ns).map V.int).eraseIdx 0 = ns.map V.int := rfl
def spDraw : Sp := fun vs H Q _ => ∃ (p l : Addr) (G : Hp) (many : Int), vs = [.ref p, .int many] ∧ 1 ≤ many ∧ many < 1000000 ∧ Wd p l G H ∧ ∀ (r : Int) (H' : Hp), 0 ≤ r → r < many → Ext p l G H G H' → Q (.int r) H'
section
variable {P : Program} {w : World} {K : PySem.W.Frag} {mg : Str → Option Value} {base : Heap}
theorem D_draw (T : Txt K mg) : Df P w K mg base 1 "_law_draw" ["deck", "many"] spDraw := by
  obtain ⟨f, fd, S⟩ := T.d_l_draw
  refine Df.mk' (k := 0) S sc_l_draw (fun vs H Q E h => ?_) (fun cdv A outer s H vs Q E hgd hr h => ?_)
  · obtain ⟨p, l, G, many, rfl, _⟩ := h
    rfl
  · obtain ⟨p, l, G, many, rfl, h1, h2, W, k⟩ := h
    have hu := hu_of hr
    refine ⟨_, (pss_cons (ps_if (pt_cmpR (op_neD hr.units) (pe_ix ix_list (pv 0) pe_int (fun _ _ => rfl)) (pe_lst pa_nil) (nomark _)) (pss_cons (ps_set (i := 2) sc_l_draw.nd rfl (.inl rfl) (pe_ix ix_list (pe_ix ix_list (pv 0) pe_int (fun _ _ => rfl)) pe_int (fun _ _ => rfl)))
      (pss_cons (ps_asg (pe_op op_fdivN (pv 2) (pv 1)) (pg_sub (pe_ix ix_list (pv 0) pe_int (fun _ _ => rfl)) pe_int set_list))
      (pss_cons (ps_if (pt_cmpR op_lt (pv 2) (pv 1) (nomark _)) (pss_one (ps_expr (pe_bm PySem.F.plainAttrs_list PySem.F.slot_list_pop PySem.F.type_list_pop mt_popAt (pe_ix ix_list (pv 0) pe_int (fun _ _ => rfl)) (pa_cons pe_int pa_nil)))) pss_nil)
      (pss_one (ps_ret (pe_op op_mod (pe_callTy call_int1 (by rfl) T.b_int (by decide +kernel) (pa_cons (pv 2) pa_nil)) (pv 1))))))) pss_nil)
      (pss_cons (ps_asg (pe_op op_add (pe_ix ix_list (pv 0) pe_int (fun _ _ => rfl)) pe_int) (pg_sub (pv 0) pe_int set_list))
      (pss_cons (ps_set (i := 3) sc_l_draw.nd rfl (.inl rfl) (pe_op op_mod (pe_callTy call_int1 (by rfl) T.b_int (by decide +kernel) (pa_cons (pe_op op_add (pe_ix ix_list (pv 0) pe_int (fun _ _ => rfl)) (pe_op op_mul pe_int (pe_ix ix_list (pv 0) pe_int (fun _ _ => rfl)))) pa_nil)) pe_int))
      (pss_cons (ps_set (i := 3) sc_l_draw.nd rfl (.inl rfl) (pe_op op_mod (pe_callTy call_int1 (by rfl) T.b_int (by decide +kernel) (pa_cons (pe_op op_add (pe_op op_add (pe_op op_mul (pv 3) (pv 3)) (pe_op op_mul pe_int (pe_ix ix_list (pv 0) pe_int (fun _ _ => rfl)))) pe_int) pa_nil)) pe_int))
      (pss_cons (ps_set (i := 3) sc_l_draw.nd rfl (.inl rfl) (pe_op op_mod (pe_callTy call_int1 (by rfl) T.b_int (by decide +kernel) (pa_cons (pe_op op_add (pe_op op_mul (pv 3) (pv 3)) (pe_ix ix_list (pv 0) pe_int (fun _ _ => rfl))) pa_nil)) pe_int))
      (pss_one (ps_ret (pe_op op_mod (pe_callTy call_int1 (by rfl) T.b_int (by decide +kernel) (pa_cons (pe_op op_fdiv (pv 3) pe_int) pa_nil)) (pv 1))))))))), ?_⟩
    obtain ⟨m, t, m0, m1, hd⟩ := W.dk
    obtain ⟨ns, hz, hl⟩ := W.ls
    refine ⟨_, rfl, p, _, 0, _, rfl, rfl, SqL.of hd, rfl, Nat.zero_le _, fun q hq => ?_⟩
    have E1 := W.tmp (o := .lst []) hq
    have hq_p := W.np hq
    have hq_l := W.nl hq
    have hd1 : upd H q (.lst []) p = some (.lst (deckL l m t)) := by rw [upd_ne hq_p.symm]; exact hd
    have hl1 : upd H q (.lst []) l = some (.lst (ns.map V.int)) := by rw [upd_ne hq_l.symm]; exact hl
    refine ⟨.list (ns.map PyData.int), .list [], .lst (SqL.of hl1) (dp_ints ns), .lst (SqL.of upd_same) .nil, shaped_ints ns, rfl, _, rfl, ?_⟩
    rw [eqv_nil]
    refine ite2 (fun hc2 => ?_) (fun hc2 => ?_)
    · -- the great ones
      have hne : ns ≠ [] := by simpa using hc2
      obtain ⟨y, ns, rfl⟩ := List.exists_cons_of_ne_nil hne
      have lz : ns.length + 1 ≤ 63 := hz
      refine ⟨_, rfl, p, _, 0, _, rfl, rfl, SqL.of hd1, rfl, l, _, 0, V.int y, rfl, rfl, SqL.of hl1, atI_zero _ _, ?_⟩
      refine ⟨_, rfl, _, rfl, _, _, rfl, rfl, ⟨by omega, by omega⟩, ?_⟩
      refine ⟨_, rfl, p, _, 0, _, rfl, rfl, SqL.of hd1, rfl, l, _, 0, 0, rfl, rfl, hl1, ixN_zero _ _, ?_⟩
      have E2 := E1.trans W (E1.w.gset (y.fdiv many :: ns) (by rw [List.length_cons]; exact lz))
      rw [show ((y :: ns).map V.int).set 0 (V.int (y.fdiv many)) = (y.fdiv many :: ns).map V.int from rfl]
      generalize hH2 : upd (upd H q (.lst [])) l (.lst ((y.fdiv many :: ns).map V.int)) = H2 at E2 ⊢
      have hl2 : H2 l = some (.lst ((y.fdiv many :: ns).map V.int)) := by rw [← hH2, upd_same]
      have hd2 : H2 p = some (.lst (deckL l m t)) := by rw [← hH2, upd_ne W.ne]; exact hd1
      refine ⟨_, rfl, _, rfl, _, _, rfl, rfl, _, rfl, ite2 (fun hc3 => ?_) (fun hc3 => ?_)⟩
      · refine ⟨_, rfl, p, _, 0, _, rfl, rfl, SqL.of hd2, rfl, .inl ⟨rfl, _, SqL.of hl2⟩, l, _, 0, 0, _, rfl, rfl, hl2, by decide, by decide, by simp [seqIndex?], rfl, ?_⟩
        rw [ints_tail]
        have E3 := E2.trans W (E2.w.gset ns (by omega))
        refine ⟨_, rfl, .inl ⟨_, rfl, _, rfl, _, _, rfl, rfl, by show (0 : Int) < many; omega, ?_⟩⟩
        exact k _ _ (Int.emod_nonneg _ (by omega)) (Int.emod_lt_of_pos _ (by omega)) E3
      · refine ⟨_, rfl, .inl ⟨_, rfl, _, rfl, _, _, rfl, rfl, by show (0 : Int) < many; omega, ?_⟩⟩
        exact k _ _ (Int.emod_nonneg _ (by omega)) (Int.emod_lt_of_pos _ (by omega)) E2
    · -- the mixed ones
      refine ⟨_, rfl, p, _, 2, V.int t, rfl, rfl, SqL.of hd1, rfl, _, _, rfl, rfl, _, rfl, p, _, 2, 2, rfl, rfl, hd1, rfl, ?_⟩
      rw [deck_set2]
      have E2 := E1.trans W (E1.w.dset (t := t + 1) m0 m1)
      generalize hH2 : upd (upd H q (.lst [])) p (.lst (deckL l m (t + 1))) = H2 at E2 ⊢
      have hd2 : H2 p = some (.lst (deckL l m (t + 1))) := by rw [← hH2, upd_same]
      refine ⟨_, rfl, p, _, 1, V.int m, rfl, rfl, SqL.of hd2, rfl, _, rfl, p, _, 2, V.int (t + 1), rfl, rfl, SqL.of hd2, rfl, _, _, rfl, rfl, .inl ⟨by decide, by decide⟩, _, _, rfl, rfl, .inl ⟨_, rfl, _, _, rfl, rfl, by show (0 : Int) < 4294967291; decide, ?_⟩⟩
      generalize hn1 : (m + 2654435761 * (t + 1)) % 4294967291 = n1
      have b1 : 0 ≤ n1 ∧ n1 < 4294967291 := by omega
      refine ⟨_, rfl, _, rfl, _, _, rfl, rfl, .inl ⟨by omega, by omega⟩, _, rfl, p, _, 2, V.int (t + 1), rfl, rfl, SqL.of hd2, rfl, _, _, rfl, rfl, .inl ⟨by decide, by decide⟩, _, _, rfl, rfl, _, _, rfl, rfl, .inl ⟨_, rfl, _, _, rfl, rfl, by show (0 : Int) < 4294967279; decide, ?_⟩⟩
      generalize hn2 : (n1 * n1 + 40503 * (t + 1) + 11) % 4294967279 = n2
      have b2 : 0 ≤ n2 ∧ n2 < 4294967279 := by omega
      refine ⟨_, rfl, _, rfl, _, _, rfl, rfl, .inl ⟨by omega, by omega⟩, _, rfl, p, _, 1, V.int m, rfl, rfl, SqL.of hd2, rfl, _, _, rfl, rfl, .inl ⟨_, rfl, _, _, rfl, rfl, by show (0 : Int) < 4294967231; decide, ?_⟩⟩
      generalize hn3 : (n2 * n2 + m) % 4294967231 = n3
      refine ⟨_, rfl, _, _, rfl, rfl, ⟨by decide, by decide⟩, .inl ⟨_, rfl, _, rfl, _, _, rfl, rfl, by show (0 : Int) < many; omega, ?_⟩⟩
      exact k _ _ (Int.emod_nonneg _ (by omega)) (Int.emod_lt_of_pos _ (by omega)) E2
end
end L2.Hx

/-! What the law's own defs have in common. -/
namespace L2.Hx
open PySem PySem.Spec PyProof.Rows
section
variable {P : Program} {w : World} {K : PySem.W.Frag} {mg : Str → Option Value} {base : Heap} {p l : Addr} {σ : St} {G : Hp}
theorem sameAdd {H : Hp} {a : Addr} {o : HO} (h : H a = none) : Same H (upd H a o) := fun b u q => by
  rw [upd_ne (ne_of_none q h)]
  exact q
theorem sameOut {H0 H : Hp} {a : Addr} {o : HO} (s : Same H0 H) (h : H0 a = none) : Same H0 (upd H a o) := fun b u q => by
  rw [upd_ne (ne_of_none q h)]
  exact s b u q
theorem Da.tupI {K : PySem.W.Frag} {G : Hp} {v : V} {ds : List PyData} (h : Da K G v (.tuple ds)) : ∃ a xs, v = .ref a ∧ SqT K G a xs ∧ DaAll K G xs ds := by
  cases h with
  | tup h t => exact ⟨_, _, rfl, h, t⟩
theorem Da.strI {K : PySem.W.Frag} {G : Hp} {v : V} {z : Str} (h : Da K G v (.str z)) : v = .str z := by
  cases h
  rfl
theorem ite_of {c A B : Prop} {x : Bool} [Decidable c] (e : x = decide c) (h1 : c → A) (h2 : ¬ c → B) : if x = true then A else B := by
  subst e
  exact ite2 (fun h => h1 (of_decide_eq_true h)) fun h => h2 (of_decide_eq_false (Bool.eq_false_iff.mpr h))
theorem iteNot {c : Bool} {A B : Prop} (h1 : c = false → A) (h2 : c = true → B) : if (!c) = true then A else B := by
  cases c
  · exact iteT (h1 rfl)
  · exact iteF (h2 rfl)
theorem iteB {c : Bool} {A B : Prop} (h1 : c = true → A) (h2 : c = false → B) : if c = true then A else B := by
  cases c
  · exact iteF (h2 rfl)
  · exact iteT (h1 rfl)
theorem behindI {N I : Hp → Prop} {A : Prop} (main : (∀ H2, I H2 → N H2) → A) (fin : ∀ H2, I H2 → N H2) : A := main fin
theorem behindP {N I : V → Hp → Prop} {A : Prop} (main : (∀ u H2, I u H2 → N u H2) → A) (fin : ∀ u H2, I u H2 → N u H2) : A := main fin
theorem behind {N : Hp → Prop} {p l : Addr} {G H : Hp} {A : Prop} (main : (∀ H2 G2, Ext p l G H G2 H2 → N H2) → A) (fin : ∀ H2 G2, Ext p l G H G2 H2 → N H2) : A := main fin
theorem ite_dec {c A B : Prop} [Decidable c] (hc : c) (h : A) : if decide c = true then A else B := by
  rw [if_pos (decide_eq_true hc)]
  exact h
theorem if_no {c : Bool} {A B : Prop} (h : c = false) (b : B) : if c = true then A else B := by
  rw [h]
  exact b
theorem Wd.still {p l : Addr} {G H H' : Hp} (W : Wd p l G H) (s : Same H H') : Ext p l G H G H' := by
  refine ⟨⟨W.same.trans s, W.gp, W.gl, ?_, ?_⟩, Same.refl G, fun b o _ _ q => s b o q, fun _ _ _ g => g⟩
  · obtain ⟨m, t, m0, m1, e⟩ := W.dk
    exact ⟨m, t, m0, m1, s _ _ e⟩
  · obtain ⟨ns, z, e⟩ := W.ls
    exact ⟨ns, z, s _ _ e⟩
theorem Okd.fit {k n : Nat} {d : PyData} (h : Okd k n d) (hn : n ≤ sizeLine) : Fit d := ⟨h.ok, Nat.le_trans h.sz hn⟩
theorem cut_ints (ns : List Int) (lo hi : Option Int) : ∃ ms : List Int, cutV (ns.map V.int) lo hi = ms.map V.int ∧ ms.length ≤ ns.length := by
  refine ⟨(ns.drop (HT.sIx (ns.map V.int).length 0 lo)).take (HT.sIx (ns.map V.int).length (ns.map V.int).length hi - HT.sIx (ns.map V.int).length 0 lo), ?_, ?_⟩
  · unfold cutV
    rw [List.map_take, List.map_drop]
  · rw [List.length_take, List.length_drop]
    omega
def LsP (ψ : PyData → Prop) (d : PyData) : Prop := ∃ ds, d = .list ds ∧ 0 < ds.length ∧ ds.length < 1000000 ∧ ∀ x ∈ ds, ψ x
def spPick : Sp := fun vs H Q _ => ∃ (p l : Addr) (G : Hp) (a : Addr) (xs : List V), vs = [.ref p, .ref a] ∧ Wd p l G H ∧ H a = some (.lst xs) ∧ a ≠ p ∧ a ≠ l ∧ 0 < xs.length ∧ xs.length < 1000000 ∧ ∀ x H', x ∈ xs → Ext p l G H G H' → Q x H'
def spDrawn (K : PySem.W.Frag) (ψ φ : PyData → Prop) : Sp := fun vs H Q _ => ∃ (p l : Addr) (G : Hp) (v : V) (d : PyData), vs = [.ref p, v] ∧ Wd p l G H ∧ Da K G v d ∧ ψ d ∧ ∀ u e G2 H2, Ext p l G H G2 H2 → Da K G2 u e → φ e → Q u H2
theorem atI_nat2 {xs : List V} {i : Int} (h0 : 0 ≤ i) (h1 : i < xs.length) : ∃ x, atI xs i = some x ∧ x ∈ xs := by
  have hi : i.toNat < xs.length := by omega
  refine ⟨xs[i.toNat], ?_, List.getElem_mem hi⟩
  unfold atI ixN
  rw [if_pos h0, if_pos h1]
  show xs[i.toNat]? = _
  rw [List.getElem?_eq_getElem hi]
theorem D_pick (T : Txt K mg) : Df P w K mg base 2 "_law_pick" ["deck", "items"] spPick := by
  have D_l_draw := D_draw (P := P) (w := w) (base := base) T
  obtain ⟨f, fd, S⟩ := T.d_l_pick
  refine Df.mk' (k := 1) S sc_l_pick (fun vs H Q E h => ?_) (fun cdv A outer s H vs Q E hgd hr h => ?_)
  · obtain ⟨p, l, G, a, xs, rfl, _⟩ := h
    rfl
  · obtain ⟨p, l, G, a, xs, rfl, W, ha, n1, n2, h0, h1, k⟩ := h
    refine ⟨_, (pss_one (ps_ret (pe_ix ix_list (pv 1) (pe_d D_l_draw hgd hr (pa_cons (pv 0) (pa_cons (pe_callB call_len_seq (by rfl) T.b_len (by decide +kernel) (pa_cons (pv 1) pa_nil)) pa_nil))) (fun _ _ => rfl)))), ?_⟩
    refine ⟨_, rfl, _, rfl, _, rfl, a, xs, rfl, .inl (SqL.of ha), p, l, G, _, rfl, by omega, by omega, W, fun r H1 r0 r1 e => ?_⟩
    obtain ⟨x, hx, mx⟩ := atI_nat2 r0 r1
    exact ⟨a, xs, r, x, rfl, rfl, SqL.of (e.keep _ _ n1 n2 ha), hx, k x H1 mx e⟩
theorem td_pick {p l : Addr} {σ : St} {G : Hp} {ta : TE} {ψ : PyData → Prop} {i : Nat} (h : TD K p l σ G ta (LsP ψ)) (hd : σ[i]? = some (some (.ref p))) : TD K p l σ G (tCall spPick [] E0 (tCons (tVar i) (tCons ta tNil))) ψ := fun G1 H Q W s kk =>
  ⟨_, hd, h G1 H _ W s fun v d G2 H2 e da f => by
    obtain ⟨ds, rfl, z0, z1, o⟩ := f
    cases da with
    | @lst a xs _ t1 a1 =>
      have hl := a1.length
      refine ⟨p, l, G2, a, xs, rfl, e.w, e.w.same _ _ t1, fun q => ?_, fun q => ?_, by omega, by omega, fun x H3 mx e3 => ?_⟩
      · rw [q, e.w.gp] at t1
        cases t1
      · rw [q, e.w.gl] at t1
        cases t1
      · obtain ⟨d, md, dd⟩ := a1.mem mx
        exact kk x d G2 H3 (e.trans W e3) dd (o d md)⟩
theorem td_lstP {p l : Addr} {σ : St} {G : Hp} {tr : TA} {Φ : List PyData → Prop} (h : TDs K p l σ G tr Φ) (hz : ∀ ds, Φ ds → ds.length ≤ sizeLine) : TD K p l σ G (tLst tr) (fun d => ∃ ds, d = .list ds ∧ Φ ds) := fun G1 H Q W s k =>
  h G1 H _ W s fun vs ds G2 H2 e da f => ⟨by rw [da.length]; exact hz ds f, fun a ha => k _ _ _ _ (e.trans W (e.w.put ha)) (.lst upd_same (da.mono (e.w.put (o := .lst vs) ha).sub)) ⟨ds, rfl, f⟩⟩
theorem td_mono {t : TE} {k n k2 n2 : Nat} (h : TD K p l σ G t (Okd k n)) (hk : k ≤ k2 := by decide) (hn : n ≤ n2 := by decide) : TD K p l σ G t (Okd k2 n2) := h.imp fun d f => f.mono hk hn
theorem TD.app {t : TE} {φ : PyData → Prop} (h : TD K p l σ G t φ) {H : Hp} {Q : VK} (W : Wd p l G H) (k : ∀ v d G2 H2, Ext p l G H G2 H2 → Da K G2 v d → φ d → Q v H2) : t σ H Q := h G H Q W (Same.refl G) k
theorem TDs.asgL {H : Hp} {D : Ends} {i : Nat} {tr : TA} {Φ : List PyData → Prop} (h : TDs K p l σ G tr Φ) (W : Wd p l G H) (hz : ∀ ds, Φ ds → ds.length ≤ sizeLine)
    (k : ∀ vs ds G2 H2 r, Ext p l G H G2 H2 → DaAll K G2 vs ds → Φ ds → H2 r = none → D.nx (σ.set i (some (.ref r))) (upd H2 r (.lst vs))) : tAsg (tLst tr) (gName i) D σ H :=
  h G H _ W (Same.refl G) fun vs ds G2 H2 e da f => ⟨by rw [da.length]; exact hz ds f, fun r hr => k vs ds G2 H2 r e da f hr⟩
theorem da_strs {K : PySem.W.Frag} {G : Hp} : ∀ ws : List Str, DaAll K G (ws.map V.str) (ws.map PyData.str)
  | [] => .nil
  | n :: ns => .cons (.str n) (da_strs ns)
theorem line16 : 16000000 ≤ sizeLine := by decide
end
theorem erase_perm {α : Type} : ∀ (l : List α) (i : Nat) (h : i < l.length), (l[i] :: l.eraseIdx i).Perm l
  | [], i, h => absurd h (Nat.not_lt_zero i)
  | x :: xs, 0, _ => .refl _
  | x :: xs, i + 1, h => (List.Perm.swap x (xs[i]'(Nat.lt_of_succ_lt_succ h)) (xs.eraseIdx i)).trans ((erase_perm xs i (Nat.lt_of_succ_lt_succ h)).cons x)
def IntD (B : Int) (d : PyData) : Prop := ∃ n : Int, d = .int n ∧ 0 ≤ n ∧ n ≤ B
def AllF (φ : PyData → Prop) (m : Nat) (ds : List PyData) : Prop := ds.length = m ∧ ∀ d ∈ ds, φ d
theorem vint {a b : Int} (h : V.int a = V.int b) : a = b := by
  cases h
  rfl
theorem tup_or : ∀ d : PyData, (∃ ds, d = .tuple ds) ∨ isTup d = false
  | .tuple ds => .inl ⟨ds, rfl⟩
  | .none => .inr rfl
  | .bool _ => .inr rfl
  | .int _ => .inr rfl
  | .str _ => .inr rfl
  | .list _ => .inr rfl
  | .dict _ => .inr rfl
section
variable {K : PySem.W.Frag} {p l : Addr} {σ : St} {G : Hp} {φ : PyData → Prop} {t te : TE} {tr : TA} {m : Nat} {B : Int}
theorem tds_nilF : TDs K p l σ G tNil (AllF φ 0) := fun G1 H Q W _ k => k _ _ _ _ (Ext.refl W) .nil ⟨rfl, fun d h => absurd h List.not_mem_nil⟩
theorem tds_consF (h : TD K p l σ G t φ) (hr : TDs K p l σ G tr (AllF φ m)) : TDs K p l σ G (tCons t tr) (AllF φ (m + 1)) := fun G1 H Q W s k =>
  tds_consP h hr G1 H Q W s fun vs ds G2 H2 e da f => k vs ds G2 H2 e da (by
    obtain ⟨d, r, rfl, h1, l1, h2⟩ := f
    refine ⟨by rw [List.length_cons, l1], fun x mx => ?_⟩
    rcases List.mem_cons.mp mx with rfl | mx
    · exact h1
    · exact h2 x mx)
theorem td_lstF (h : TDs K p l σ G tr (AllF φ (m + 1))) (hz : m + 1 < 1000000 := by decide) : TD K p l σ G (tLst tr) (LsP φ) := TD.imp (td_lstP h fun ds f => by
  have : 1000000 ≤ sizeLine := by decide
  rw [f.1]
  omega) fun d ⟨ds, e, l1, h1⟩ => ⟨ds, e, by omega, by omega, h1⟩
theorem td_intF {i : Int} (h0 : 0 ≤ i := by decide) (h1 : i ≤ B := by decide) : TD K p l σ G (tC (.int i)) (IntD B) := .flat (fun _ => .int i) ⟨i, rfl, h0, h1⟩
theorem td_powF {i : Int} (h : (0 : Int) ≤ 10 ^ i.toNat ∧ (10 : Int) ^ i.toNat ≤ B := by decide +kernel) (hc : CPow 10 i := by exact ⟨by decide, by decide, by decide⟩) : TD K p l σ G (tOp (rI CPow fun i j => .int (i ^ j.toNat)) (tC (.int 10)) (tC (.int i))) (IntD B) := fun G1 H Q W s kk =>
  ⟨10, i, rfl, rfl, hc, kk _ _ _ _ (Ext.refl W) (.int _) ⟨_, rfl, h.1, h.2⟩⟩
theorem td_varI {j : Nat} {i : Int} (hj : σ[j]? = some (some (.int i))) (h0 : 0 ≤ i) (h1 : i ≤ B) : TD K p l σ G (tVar j) (IntD B) := td_var hj (.int i) ⟨i, rfl, h0, h1⟩
theorem td_addI {j : Nat} {i c : Int} (hj : σ[j]? = some (some (.int i))) (h0 : 0 ≤ i + c) (h1 : i + c ≤ B) : TD K p l σ G (tOp (rI0 fun i j => .int (i + j)) (tVar j) (tC (.int c))) (IntD B) := fun G1 H Q W s kk =>
  ⟨_, hj, _, _, rfl, rfl, kk _ _ _ _ (Ext.refl W) (.int _) ⟨_, rfl, h0, h1⟩⟩
theorem td_lcl {a : Addr} {xs : List V} {i j : Nat} {φ : Nat → PyData → Prop} (hi : σ[i]? = some (some (.ref a))) (hS : SqL K G a xs) (hM : xs.length < sizeLine) (he : ∀ n x, xs[n]? = some x → TD K p l ((σ.set j none).set j (some x)) G te (φ n)) :
    TD K p l σ G (tLc (iList K (tVar i)) (gName j) tYes te [j]) (fun d => ∃ ds, d = .list ds ∧ ds.length = xs.length ∧ ∀ n e, ds[n]? = some e → φ n e) := fun G1 H Q W s k =>
  ⟨_, hi, a, rfl, ⟨xs, (s.trans W.same).seq hS⟩, fun D hD => by
    have nDp := W.np hD
    have nDl := W.nl hD
    have E1 := W.tmp (o := .lst []) hD
    refine lc_list (K := K) (a := a) (xs := xs) (fun i H3 => ∃ G3 vs ds, Wd p l G3 H3 ∧ Same G1 G3 ∧ G3 D = none ∧ H3 D = some (.lst vs) ∧ DaAll K G3 vs ds ∧ ds.length = i ∧ (∀ n e, ds[n]? = some e → φ n e) ∧
        (∀ b o, b ≠ p → b ≠ l → b ≠ D → H b = some o → H3 b = some o) ∧ (∀ b o, H b = some o → G1 b = none → G3 b = none))
      ⟨G1, [], [], E1.w, Same.refl _, W.same.free hD, upd_same, .nil, rfl, fun n e m => (by cases n <;> cases m), fun b o n1 n2 n3 q => by rw [upd_ne n3]; exact q, fun b o _ g => g⟩
      (fun i H3 _ ⟨G3, vs, ds, w3, s3, _⟩ => ((s.trans s3).trans w3.same).seq hS) ?_ ?_
    · rintro n x H3 hx ⟨G3, vs, ds, w3, s3, gD, hD3, da3, l3, f3, k3, n3⟩
      have hn := (List.getElem?_eq_some_iff.mp hx).1
      refine ⟨set_none σ, ?_⟩
      show te _ _ _
      refine he n x hx G3 H3 _ w3 (s.trans s3) fun v d G4 H4 e4 da4 f4 => ?_
      have hD4 : H4 D = some (.lst vs) := e4.keep _ _ nDp nDl hD3
      have gD4 : G4 D = none := e4.new _ _ hD3 gD
      refine ⟨vs, hD4, by rw [da3.length, l3]; omega, G4, vs ++ [v], ds ++ [d], e4.w.own nDp nDl gD4, s3.trans e4.sub, gD4, upd_same, (da3.mono e4.sub).append (.cons da4 .nil),
        by rw [List.length_append, l3]; rfl, fun n2 e2 m => ?_, fun b o n1 n2 n4 q => ?_, fun b o q g => ?_⟩
      · rw [List.getElem?_append] at m
        split at m
        · exact f3 _ _ m
        · have hn2 : n2 - ds.length = 0 := by
            have := (List.getElem?_eq_some_iff.mp m).1
            rw [List.length_singleton] at this
            omega
          rw [hn2] at m
          cases m
          have : n2 = n := by omega
          rw [this]
          exact f4
      · rw [upd_ne n4]
        exact e4.keep _ _ n1 n2 (k3 b o n1 n2 n4 q)
      · have g3 := n3 b o q g
        by_cases b1 : b = p
        · subst b1
          exact e4.w.gp
        · by_cases b2 : b = l
          · subst b2
            exact e4.w.gl
          · exact e4.new b o (k3 b o b1 b2 (ne_of_none q hD) q) g3
    · rintro H3 ⟨G3, vs, ds, w3, s3, gD, hD3, da3, l3, f3, k3, n3⟩
      obtain ⟨w4, s4⟩ := w3.hold nDp nDl gD hD3
      have E2 : Ext p l G1 H (upd G3 D (.lst vs)) H3 := ⟨w4, s3.trans s4, fun b o n1 n2 q => k3 b o n1 n2 (ne_of_none q hD) q, fun b o q g => by
        rw [upd_ne (ne_of_none q hD)]
        exact n3 b o q g⟩
      exact k _ _ _ _ E2 (.lst upd_same (da3.mono s4)) ⟨ds, rfl, l3, f3⟩⟩
end
end L2.Hx

/-! The deck is made; items in a drawn order. -/
namespace L2.Hx
open PySem PySem.Spec PyProof.Rows
/-- all that is new is held -/
theorem Wd.grow {p l : Addr} {G H H' : Hp} (W : Wd p l G H) (s : Same H H') : ∃ G2, Ext p l G H G2 H' ∧ ∀ b, H b = none → G2 b = H' b := by
  have hp : ∃ o, H p = some o := by
    obtain ⟨m, t, _, _, h⟩ := W.dk
    exact ⟨_, h⟩
  have hl : ∃ o, H l = some o := by
    obtain ⟨m, _, h⟩ := W.ls
    exact ⟨_, h⟩
  refine ⟨fun b => if (H b).isNone = true then H' b else G b, ⟨⟨fun b o q => ?_, ?_, ?_, ?_, ?_⟩, fun b o q => ?_, fun b o _ _ q => s _ _ q, fun b o q g => ?_⟩, fun b q => ?_⟩
  · split at q
    · exact q
    · exact s _ _ (W.same _ _ q)
  · obtain ⟨o, e⟩ := hp
    show (if (H p).isNone = true then H' p else G p) = none
    rw [e]
    exact W.gp
  · obtain ⟨o, e⟩ := hl
    show (if (H l).isNone = true then H' l else G l) = none
    rw [e]
    exact W.gl
  · obtain ⟨m, t, a, b, h⟩ := W.dk
    exact ⟨m, t, a, b, s _ _ h⟩
  · obtain ⟨m, a, h⟩ := W.ls
    exact ⟨m, a, s _ _ h⟩
  · show (if (H b).isNone = true then H' b else G b) = some o
    rw [W.same _ _ q]
    exact q
  · show (if (H b).isNone = true then H' b else G b) = none
    rw [q]
    exact g
  · show (if (H b).isNone = true then H' b else G b) = H' b
    rw [q]
    rfl
theorem perm_map_inv {α β : Type} {f : α → β} {ys zs : List β} (h : ys.Perm zs) : ∀ L : List α, zs = L.map f → ∃ M : List α, ys = M.map f ∧ M.Perm L := by
  induction h with
  | nil =>
    intro L e
    cases L with
    | nil => exact ⟨[], rfl, .refl _⟩
    | cons a L => cases e
  | cons x _ ih =>
    intro L e
    cases L with
    | nil => cases e
    | cons a L =>
      injection e with e1 e2
      obtain ⟨M, m1, m2⟩ := ih L e2
      exact ⟨a :: M, by rw [m1, e1]; rfl, m2.cons a⟩
  | swap x y l =>
    intro L e
    cases L with
    | nil => cases e
    | cons a L =>
      cases L with
      | nil => cases e
      | cons b L =>
        injection e with e1 e2
        injection e2 with e2 e3
        exact ⟨b :: a :: L, by rw [e1, e2, e3]; rfl, List.Perm.swap _ _ _⟩
  | trans _ _ ih1 ih2 =>
    intro L e
    obtain ⟨M2, e2, p2⟩ := ih2 L e
    obtain ⟨M1, e1, p1⟩ := ih1 M2 e2
    exact ⟨M1, e1, p1.trans p2⟩
def Shp (d : PyData) : Prop := d.canLay0 = true ∧ d.depth ≤ 20
theorem shp_all : ∀ {es : List PyData}, (∀ e ∈ es, Shp e) → PyData.canLayAll0 es = true ∧ PyData.depthAll es ≤ 20
  | [], _ => ⟨rfl, by simp [PyData.depthAll]⟩
  | e :: es, h => by
    obtain ⟨a, b⟩ := shp_all (es := es) fun x m => h x (List.mem_cons_of_mem _ m)
    obtain ⟨c, d⟩ := h e List.mem_cons_self
    refine ⟨by simp [PyData.canLayAll0, c, a], ?_⟩
    simp only [PyData.depthAll]
    omega
theorem shaped_list {es : List PyData} (h : ∀ e ∈ es, Shp e) : SeqAt.shaped (.list es) = true := by
  obtain ⟨a, b⟩ := shp_all h
  unfold SeqAt.shaped
  rw [Bool.and_eq_true]
  refine ⟨by simpa [PyData.canLay0] using a, decide_eq_true ?_⟩
  simp only [PyData.depth]
  omega
mutual
theorem Da.dp {K : PySem.W.Frag} {G H : Hp} (s : Same G H) : ∀ {d : PyData} {v : V}, Da K G v d → d.canLay0 = true → Dp K H v d
  | _, _, .non, _ => .non
  | _, _, .bl b, _ => .bl b
  | _, _, .int i, _ => .int i
  | _, _, .str x, _ => .str x
  | _, _, .lst h t, c => .lst (SqL.of (s _ _ h)) (DaAll.dp s t (by simpa [PyData.canLay0] using c))
  | _, _, .tup h t, c => .tup (sameT s h) (DaAll.dp s t (by simpa [PyData.canLay0] using c))
  | _, _, .dct _ _, c => by simp [PyData.canLay0] at c
theorem DaAll.dp {K : PySem.W.Frag} {G H : Hp} (s : Same G H) : ∀ {ds : List PyData} {vs : List V}, DaAll K G vs ds → PyData.canLayAll0 ds = true → DpAll K H vs ds
  | _, _, .nil, _ => .nil
  | _, _, .cons h t, c => by
    rw [PyData.canLayAll0, Bool.and_eq_true] at c
    exact .cons (Da.dp s h c.1) (DaAll.dp s t c.2)
end
theorem eqv_nilG (es : List PyData) : PyData.eqv (.list es) (.list []) = decide (es = []) := by
  cases es <;> simp [PyData.eqv, PyData.eqvAll]
theorem da_zip {K : PySem.W.Frag} {G : Hp} : ∀ {zs : List (V × PyData)}, (∀ z ∈ zs, Da K G z.1 z.2) → DaAll K G (zs.map Prod.fst) (zs.map Prod.snd)
  | [], _ => .nil
  | z :: zs, h => .cons (h z List.mem_cons_self) (da_zip fun x m => h x (List.mem_cons_of_mem _ m))
theorem erase_map {α β : Type} (f : α → β) : ∀ (ns : List α) (j : Nat), (ns.map f).eraseIdx j = (ns.eraseIdx j).map f
  | [], _ => rfl
  | _ :: _, 0 => rfl
  | n :: ns, j + 1 => congrArg (f n :: ·) (erase_map f ns j)
/-- items in another order; each with what it is -/
def spMixed (K : PySem.W.Frag) : Sp := fun vs H Q _ => ∃ (p l : Addr) (G : Hp) (a : Addr) (zs : List (V × PyData)), vs = [.ref p, .ref a] ∧ Wd p l G H ∧ (SqL K H a (zs.map Prod.fst) ∨ SqT K H a (zs.map Prod.fst)) ∧ zs.length ≤ 1000 ∧ (∀ z ∈ zs, Da K G z.1 z.2 ∧ Shp z.2) ∧
  ∀ (r : Addr) (ys : List (V × PyData)) (G' H' : Hp), Ext p l G H G' H' → H' r = some (.lst (ys.map Prod.fst)) → H r = none → G' r = none → ys.Perm zs → Q (.ref r) H'
def spDeck (K : PySem.W.Frag) : Sp := fun vs H Q _ => ∃ (a : Addr) (ns : List Int), vs = [.ref a] ∧ SqL K H a (ns.map V.int) ∧ ns.length ≤ 63 ∧ ∀ p l H', Wd p l H H' → Q (.ref p) H'
section
variable {P : Program} {w : World} {K : PySem.W.Frag} {mg : Str → Option Value} {base : Heap}
theorem D_l_mixed (T : Txt K mg) : Df P w K mg base 2 "_law_mixed" ["deck", "items"] (spMixed K) := by
  have D_l_draw := D_draw (P := P) (w := w) (base := base) T
  obtain ⟨f, fd, S⟩ := T.d_l_mixed
  refine Df.mk' (k := 1) S sc_l_mixed (fun vs H Q E h => ?_) (fun cdv A outer s H vs Q E hgd hr h => ?_)
  · obtain ⟨p, l, G, a, zs, rfl, _⟩ := h
    rfl
  · obtain ⟨p, l, G, a, zs, rfl, W, aL, lw, dz, k⟩ := h
    have line5 : (5000 : Nat) ≤ sizeLine := by decide
    refine ⟨_, (pss_cons (ps_par (i := 2) (j := 3) (by rfl) sc_l_mixed.nd rfl rfl (by decide) rfl rfl (pa_cons (pe_callTy call_list_of (by rfl) T.b_list (by decide +kernel) (pa_cons (pv 1) pa_nil)) (pa_cons (pe_lst pa_nil) pa_nil)) (by rfl))
      (pss_cons (ps_while PassesOwn.never (pt_cmpR (op_neD hr.units) (pv 2) (pe_lst pa_nil) (nomark _)) (pss_one (ps_expr (pe_bm PySem.F.plainAttrs_list PySem.F.slot_list_append PySem.F.type_list_append mt_append (pv 3) (pa_cons (pe_bm PySem.F.plainAttrs_list PySem.F.slot_list_pop PySem.F.type_list_pop mt_popAt (pv 2) (pa_cons (pe_d D_l_draw hgd hr (pa_cons (pv 0) (pa_cons (pe_callB call_len_seq (by rfl) T.b_len (by decide +kernel) (pa_cons (pv 2) pa_nil)) pa_nil))) pa_nil)) pa_nil)))))
      (pss_one (ps_ret (pv 3))))), ?_⟩
    refine ⟨_, rfl, a, zs.map Prod.fst, rfl, aL, fun q hq => ⟨Nat.zero_le _, fun r hr' => ⟨_, _, rfl, ?_⟩⟩⟩
    have nqr : q ≠ r := fun e => by
      rw [← e, upd_same] at hr'
      cases hr'
    have e1 := W.tmp (o := .lst (zs.map Prod.fst)) hq
    have e2 := e1.w.tmp (o := .lst []) hr'
    have qp := W.np hq
    have ql := W.nl hq
    have rp := e1.w.np hr'
    have rl := e1.w.nl hr'
    have gq : G q = none := W.same.free hq
    have gr : G r = none := e1.w.same.free hr'
    have hr0 : H r = none := by
      cases z : H r with
      | none => rfl
      | some o2 =>
        rw [upd_ne nqr.symm, z] at hr'
        cases hr'
    have E2 := e1.trans W e2
    have q2 : (upd (upd H q (.lst (zs.map Prod.fst))) r (.lst [])) q = some (.lst (zs.map Prod.fst)) := by rw [upd_ne nqr, upd_same]
    have r2 : (upd (upd H q (.lst (zs.map Prod.fst))) r (.lst [])) r = some (.lst (([] : List (V × PyData)).map Prod.fst)) := upd_same
    generalize upd (upd H q (.lst (zs.map Prod.fst))) r (.lst []) = H2 at E2 q2 r2 ⊢
    refine ⟨fun m σ H3 => σ = [some (.ref p), some (.ref a), some (.ref q), some (.ref r)] ∧ ∃ xs ys : List (V × PyData), m = xs.length ∧ (xs ++ ys).Perm zs ∧ Ext p l G H G H3 ∧ H3 q = some (.lst (xs.map Prod.fst)) ∧ H3 r = some (.lst (ys.map Prod.fst)),
      ⟨zs.length, rfl, zs, [], rfl, by rw [List.append_nil], E2, q2, r2⟩, ?_⟩
    rintro m σ H3 ⟨rfl, xs, ys, rfl, pm, E3, q3, r3⟩
    have lxy : xs.length + ys.length = zs.length := by rw [← List.length_append]; exact pm.length_eq
    refine ⟨_, rfl, Nat.zero_le _, fun t ht => ?_⟩
    have nqt : q ≠ t := fun e => by
      rw [← e, q3] at ht
      cases ht
    have nrt : r ≠ t := fun e => by
      rw [← e, r3] at ht
      cases ht
    have E4 := E3.trans W (E3.w.tmp (o := .lst []) ht)
    have q4 : (upd H3 t (.lst [])) q = some (.lst (xs.map Prod.fst)) := by rw [upd_ne nqt]; exact q3
    have r4 : (upd H3 t (.lst [])) r = some (.lst (ys.map Prod.fst)) := by rw [upd_ne nrt]; exact r3
    have xz : ∀ z ∈ xs, Da K G z.1 z.2 ∧ Shp z.2 := fun z m => dz z (pm.mem_iff.mp (List.mem_append_left _ m))
    have sx : ∀ e ∈ xs.map Prod.snd, Shp e := fun e m => by
      obtain ⟨z, mz, rfl⟩ := List.mem_map.mp m
      exact (xz z mz).2
    refine ⟨.list (xs.map Prod.snd), .list [], .lst (SqL.of q4) (DaAll.dp E4.w.same (da_zip fun z m => (xz z m).1) (shp_all sx).1), .lst (SqL.of upd_same) .nil, shaped_list sx, rfl, _, rfl, ?_⟩
    rw [eqv_nilG]
    generalize upd H3 t (.lst []) = H4 at E4 q4 r4 ⊢
    refine iteNot (fun hn => ?_) (fun hn => ?_)
    · have ne : xs ≠ [] := fun e => by
        rw [e] at hn
        cases hn
      have pos : 0 < xs.length := List.length_pos_iff.mpr ne
      refine ⟨fun σ H5 => σ = [some (.ref p), some (.ref a), some (.ref q), some (.ref r)] ∧ ∃ xs2 ys2 : List (V × PyData), xs2.length < xs.length ∧ (xs2 ++ ys2).Perm zs ∧ Ext p l G H G H5 ∧ H5 q = some (.lst (xs2.map Prod.fst)) ∧ H5 r = some (.lst (ys2.map Prod.fst)),
        fun σ H5 ⟨e, xs2, ys2, lt, h⟩ => ⟨xs2.length, lt, e, xs2, ys2, rfl, h⟩, ?_⟩
      refine ⟨_, rfl, .inl ⟨rfl, _, SqL.of r4⟩, _, rfl, .inl ⟨rfl, _, SqL.of q4⟩, _, rfl, _, rfl, q, xs.map Prod.fst, rfl, .inl (SqL.of q4), p, l, G, _, rfl, by rw [List.length_map]; omega, by rw [List.length_map]; omega, E4.w, fun d H5 d0 d1 e5 => ?_⟩
      rw [List.length_map] at d1
      have dn : d.toNat < xs.length := by omega
      have q5 := e5.keep _ _ qp ql q4
      have r5 := e5.keep _ _ rp rl r4
      have pm2 : (xs.eraseIdx d.toNat ++ (ys ++ [xs[d.toNat]])).Perm zs := by
        refine List.Perm.trans ?_ pm
        refine List.Perm.trans ?_ ((erase_perm xs d.toNat dn).append_right ys)
        rw [← List.append_assoc]
        exact List.perm_append_comm
      refine ⟨q, xs.map Prod.fst, d, d.toNat, xs[d.toNat].1, rfl, rfl, q5, by omega, by omega, ?_, by rw [List.getElem?_map, List.getElem?_eq_getElem dn]; rfl, ?_⟩
      · rw [List.length_map]
        have d2 : ¬ d < 0 := by omega
        simp [seqIndex?, d2, d0, d1]
      · have E5 := (E4.trans W e5)
        have W6 := E5.w.own (o := .lst ((xs.map Prod.fst).eraseIdx d.toNat)) qp ql gq
        refine ⟨r, ys.map Prod.fst, _, rfl, rfl, by rw [upd_ne nqr.symm]; exact r5, by rw [List.length_map]; omega, rfl, xs.eraseIdx d.toNat, ys ++ [xs[d.toNat]], ?_, pm2, ?_, ?_, ?_⟩
        · rw [List.length_eraseIdx_of_lt dn]
          omega
        · refine ⟨W6.own rp rl gr, Same.refl G, fun b o n1 n2 hb => ?_, fun b o hb g => g⟩
          rw [upd_ne (ne_of_none hb hr0), upd_ne (ne_of_none hb hq)]
          exact E5.keep b o n1 n2 hb
        · rw [upd_ne nqr, upd_same, erase_map]
        · rw [upd_same, List.map_append]
          rfl
    · have ne : xs = [] := by
        cases xs with
        | nil => rfl
        | cons x xs => cases hn
      subst ne
      exact ⟨_, rfl, k r ys _ H4 E4 r4 hr0 gr pm⟩
theorem D_deck (T : Txt K mg) : Df P w K mg base 1 "_law_deck" ["script"] (spDeck K) := by
  obtain ⟨f, fd, S⟩ := T.d_l_deck
  refine Df.mk' (k := 0) S sc_l_deck (fun vs H Q E h => ?_) (fun cdv A outer s H vs Q E hgd hr h => ?_)
  · obtain ⟨a, ns, rfl, _⟩ := h
    rfl
  · obtain ⟨a, ns, rfl, hS, hz, k⟩ := h
    have hu := hu_of hr
    refine ⟨_, (pss_cons (ps_par (i := 1) (j := 2) (by rfl) sc_l_deck.nd rfl rfl (by decide) rfl rfl (pa_cons (pe_lc (own := [("cell", 3)]) (g := gName 3) (tt := tYes) rfl sc_l_deck.nd (pi_list (pe_slice sl_list (pv 0) po_none (po_some pe_int))) (blkOk_by (own := [("cell", 3)]) (N := ["script", "cells", "stirred", "cell"]) (sc := defScope s_l_deck) (by decide +kernel)) (fun _ _ _ _ _ => pg_name (i := 3) sc_l_deck.nd rfl (.inl rfl)) (fun _ _ _ _ _ => pts_nil) (fun _ _ _ _ _ => (pe_ifExp (pt_cmpR op_ge (pv 3) pe_int (nomark _)) (pe_op op_mul pe_int (pv 3)) (pe_op op_sub (pe_op op_mul (pe_un un_neg pe_int) (pv 3)) pe_int)))) (pa_cons (pe_op op_add pe_int (pe_callB call_len_seq (by rfl) T.b_len (by decide +kernel) (pa_cons (pv 0) pa_nil))) pa_nil)) (by rfl))
      (pss_cons (ps_for PassesOwn.never rfl (pi_list (pv 1)) (pg_name (i := 3) sc_l_deck.nd rfl (.inl rfl))
      (pss_one (ps_set (i := 2) sc_l_deck.nd rfl (.inl rfl) (pe_op op_mod (pe_callTy call_int1 (by rfl) T.b_int (by decide +kernel) (pa_cons (pe_op op_add (pe_op op_mul (pv 2) pe_int) (pv 3)) pa_nil)) pe_int))))
      (pss_one (ps_ret (pe_lst (pa_cons (pe_lc (own := [("cell", 3)]) (g := gName 3) rfl sc_l_deck.nd (pi_list (pv 1)) (blkOk_by (own := [("cell", 3)]) (N := ["script", "cells", "stirred", "cell"]) (sc := defScope s_l_deck) (by decide +kernel)) (fun _ _ _ _ _ => pg_name (i := 3) sc_l_deck.nd rfl (.inl rfl)) (fun _ _ _ _ _ => (pts_one (pt_cmpR op_ge (pv 3) (pe_op op_pow pe_int pe_int) (nomark _)))) (fun _ _ _ _ _ => (pv 3))) (pa_cons (pv 2) (pa_cons pe_int pa_nil)))))))), ?_⟩
    refine ⟨_, rfl, _, rfl, a, _, rfl, hS, fun q hq => ?_⟩
    obtain ⟨ms, e1, e2⟩ := cut_ints ns none (some 63)
    rw [e1]
    have s1 : Same H (upd H q (.lst (ms.map V.int))) := sameAdd hq
    have q1 : (upd H q (.lst (ms.map V.int))) q = some (.lst (ms.map V.int)) := upd_same
    generalize upd H q (.lst (ms.map V.int)) = H1 at s1 q1 ⊢
    refine ⟨q, rfl, ⟨_, SqL.of q1⟩, fun D hD => lc_list (K := K) (a := q) (xs := ms.map V.int) (fun i H3 => Same H1 H3 ∧ ∃ cs : List Int, cs.length = i ∧ H3 D = some (.lst (cs.map V.int))) ⟨sameAdd hD, [], rfl, upd_same⟩ (fun i H3 _ h => SqL.of (h.1 _ _ q1)) ?_ ?_⟩
    · rintro i x H3 hx ⟨s3, cs, rfl, hD3⟩
      have lx := (List.getElem?_eq_some_iff.mp hx).1
      rw [List.length_map] at lx
      obtain ⟨n, _, rfl⟩ := List.mem_map.mp (List.mem_of_getElem? hx)
      refine ⟨rfl, _, rfl, _, _, rfl, rfl, _, rfl, ite2 (fun hc => ?_) (fun hc => ?_)⟩
      · refine ⟨_, rfl, _, _, rfl, rfl, .inl ⟨by decide, by decide⟩, _, hD3, by rw [List.length_map]; exact small1000 (by omega), sameOut s3 hD, cs ++ [2 * n], by rw [List.length_append]; rfl, by rw [upd_same, List.map_append]; rfl⟩
      · refine ⟨_, rfl, _, rfl, _, _, rfl, rfl, .inl ⟨by decide, by decide⟩, _, _, rfl, rfl, _, hD3, by rw [List.length_map]; exact small1000 (by omega), sameOut s3 hD, cs ++ [-2 * n - 1], by rw [List.length_append]; rfl, by rw [upd_same, List.map_append]; rfl⟩
    · rintro H3 ⟨s3, cs, lc, hD3⟩
      rw [List.length_map] at lc
      refine ⟨_, rfl, a, _, rfl, .inl ((s1.trans s3).seq hS), _, _, rfl, rfl, _, _, rfl, ?_⟩
      refine ⟨_, rfl, D, rfl, ⟨_, SqL.of hD3⟩, for_list (K := K) (a := D) (xs := cs.map V.int) (fun i σ H4 => ∃ m c, σ = [some (.ref a), some (.ref D), some (.int m), c] ∧ (0 < i → 0 ≤ m ∧ m < 4294967291) ∧ (i = 0 → 0 ≤ m ∧ m < 1000000) ∧ H4 = H3)
        ⟨_, none, rfl, fun z => absurd z (Nat.lt_irrefl _), fun _ => ⟨by omega, by rw [List.length_map]; omega⟩, rfl⟩ (fun i σ H4 _ ⟨_, _, _, _, _, h⟩ => by rw [h]; exact SqL.of hD3) ?_ ?_⟩
      · rintro i x σ H4 hx ⟨m, c, rfl, b1, b2, rfl⟩
        obtain ⟨n, _, rfl⟩ := List.mem_map.mp (List.mem_of_getElem? hx)
        refine ⟨_, rfl, _, _, rfl, rfl, .inr ⟨by decide, by decide⟩, _, rfl, _, _, rfl, rfl, .inl ⟨_, rfl, _, _, rfl, rfl, by show (0 : Int) < 4294967291; decide, ?_⟩⟩
        exact ⟨_, _, rfl, fun _ => ⟨Int.emod_nonneg _ (by decide), Int.emod_lt_of_pos _ (by decide)⟩, fun z => absurd z (Nat.succ_ne_zero i), rfl⟩
      · rintro σ H4 ⟨m, c, rfl, b1, b2, rfl⟩
        have bm : 0 ≤ m ∧ m < 4294967291 := by
          by_cases h0 : 0 < (cs.map V.int).length
          · exact b1 h0
          · have := b2 (by omega)
            omega
        refine ⟨_, rfl, D, rfl, ⟨_, SqL.of hD3⟩, fun L hL => lc_list (K := K) (a := D) (xs := cs.map V.int) (fun i H5 => Same H4 H5 ∧ ∃ gs : List Int, gs.length ≤ i ∧ H5 L = some (.lst (gs.map V.int))) ⟨sameAdd hL, [], Nat.le_refl _, upd_same⟩ (fun i H5 _ h => SqL.of (h.1 _ _ hD3)) ?_ ?_⟩
        · rintro i x H5 hx ⟨s5, gs, lg, hL5⟩
          have lx := (List.getElem?_eq_some_iff.mp hx).1
          rw [List.length_map] at lx
          obtain ⟨n, _, rfl⟩ := List.mem_map.mp (List.mem_of_getElem? hx)
          refine ⟨rfl, _, rfl, _, _, rfl, rfl, ⟨by decide, by decide, by decide⟩, _, _, rfl, rfl, _, rfl, ite2 (fun hc => ?_) (fun hc => ?_)⟩
          · exact ⟨_, rfl, _, hL5, by rw [List.length_map]; exact small1000 (by omega), sameOut s5 hL, gs ++ [n], by rw [List.length_append, List.length_singleton]; omega, by rw [upd_same, List.map_append]; rfl⟩
          · exact ⟨s5, gs, by omega, hL5⟩
        · rintro H5 ⟨s5, gs, lg, hL5⟩
          rw [List.length_map] at lg
          have s05 : Same H H5 := (s1.trans s3).trans s5
          have hL0 : H L = none := (s1.trans s3).free hL
          refine ⟨_, rfl, by show 3 ≤ sizeLine; decide, fun p hp => k p L _ ⟨sameOut s05 (s05.free hp), s05.free hp, hL0, ⟨m, 0, bm.1, bm.2, upd_same⟩, ⟨gs, by omega, ?_⟩⟩⟩
          rw [upd_ne (ne_of_none hL5 hp)]
          exact hL5
end
end L2.Hx

/-! Cases over plain lists: lots and arrows numbered as they are met. -/
namespace L2.Hx
open PySem PySem.Spec PyProof.Rows
def msr (ks S : List Int) : Nat := (ks.filter fun k => !decide (k ∈ S)).length
theorem msr_le (a : Int) (S : List Int) : ∀ ks : List Int, msr ks (S ++ [a]) ≤ msr ks S
  | [] => Nat.le_refl _
  | k :: ks => by
    have ih := msr_le a S ks
    unfold msr at ih ⊢
    rw [List.filter_cons, List.filter_cons]
    by_cases h : k ∈ S
    · rw [decide_eq_true h, decide_eq_true (List.mem_append_left [a] h)]
      exact ih
    · rw [decide_eq_false h]
      split
      · rw [if_pos (show (!false) = true from rfl), List.length_cons, List.length_cons]
        omega
      · rw [if_pos (show (!false) = true from rfl), List.length_cons]
        omega
theorem msr_lt {a : Int} {S : List Int} : ∀ {ks : List Int}, a ∈ ks → ¬ a ∈ S → msr ks (S ++ [a]) < msr ks S
  | [], h, _ => absurd h List.not_mem_nil
  | k :: ks, h, hn => by
    have le := msr_le a S ks
    by_cases e : a = k
    · subst e
      unfold msr at le ⊢
      rw [List.filter_cons, List.filter_cons, decide_eq_false hn, decide_eq_true (List.mem_append_right S List.mem_cons_self), if_pos (show (!false) = true from rfl), if_neg (show ¬ (!true) = true from Bool.false_ne_true), List.length_cons]
      omega
    · have hk : a ∈ ks := (List.mem_cons.mp h).resolve_left e
      have ih := msr_lt hk hn
      unfold msr at ih ⊢
      rw [List.filter_cons, List.filter_cons]
      by_cases h : k ∈ S
      · rw [decide_eq_true h, decide_eq_true (List.mem_append_left [a] h)]
        exact ih
      · rw [decide_eq_false h]
        split
        · rw [if_pos (show (!false) = true from rfl), List.length_cons, List.length_cons]
          omega
        · rw [if_pos (show (!false) = true from rfl), List.length_cons]
          omega
/-- the road from a to e over the keys, behind those that are gone -/
def roadF (ks : List Int) (M : Int → Int) (e a : Int) (r : List Int) : Option (List Int) :=
  if a = e then some r else if h : a ∈ ks ∧ ¬ a ∈ r then roadF ks M e (M a) (r ++ [a]) else none
termination_by msr ks r
decreasing_by exact msr_lt h.1 h.2
/-- all that is come to from a, behind those that are met -/
def reachF (ks : List Int) (M : Int → Int) (a : Int) (S : List Int) : List Int :=
  if h : a ∈ ks ∧ ¬ a ∈ S then reachF ks M (M a) (S ++ [a]) else S
termination_by msr ks S
decreasing_by exact msr_lt h.1 h.2
theorem roadF_end {ks : List Int} {M : Int → Int} {e a : Int} {r : List Int} (h : a = e) : roadF ks M e a r = some r := by
  rw [roadF, if_pos h]
theorem roadF_on {ks : List Int} {M : Int → Int} {e a : Int} {r : List Int} (h : ¬ a = e) (h1 : a ∈ ks) (h2 : ¬ a ∈ r) : roadF ks M e a r = roadF ks M e (M a) (r ++ [a]) := by
  rw [roadF, if_neg h, dif_pos ⟨h1, h2⟩]
theorem roadF_no {ks : List Int} {M : Int → Int} {e a : Int} {r : List Int} (h : ¬ a = e) (h1 : ¬ (a ∈ ks ∧ ¬ a ∈ r)) : roadF ks M e a r = none := by
  rw [roadF, if_neg h, dif_neg h1]
theorem reachF_on {ks : List Int} {M : Int → Int} {a : Int} {S : List Int} (h1 : a ∈ ks) (h2 : ¬ a ∈ S) : reachF ks M a S = reachF ks M (M a) (S ++ [a]) := by
  rw [reachF, dif_pos ⟨h1, h2⟩]
theorem reachF_no {ks : List Int} {M : Int → Int} {a : Int} {S : List Int} (h : ¬ (a ∈ ks ∧ ¬ a ∈ S)) : reachF ks M a S = S := by
  rw [reachF, dif_neg h]
/-- each once, and all of them keys -/
def Once (ks T : List Int) : Prop := T.Nodup ∧ ∀ x ∈ T, x ∈ ks
theorem Once.nil {ks : List Int} : Once ks [] := ⟨List.nodup_nil, fun x h => absurd h List.not_mem_nil⟩
theorem Once.snoc {ks T : List Int} {a : Int} (h : Once ks T) (h1 : a ∈ ks) (h2 : ¬ a ∈ T) : Once ks (T ++ [a]) := by
  refine ⟨List.nodup_append.mpr ⟨h.1, by simp, fun x hx y hy => ?_⟩, fun x hx => ?_⟩
  · rw [List.mem_singleton.mp hy]
    intro e
    rw [e] at hx
    exact h2 hx
  · rcases List.mem_append.mp hx with hx | hx
    · exact h.2 x hx
    · rw [List.mem_singleton.mp hx]
      exact h1
theorem once_len : ∀ {T ks : List Int}, Once ks T → T.length ≤ ks.length
  | [], _, _ => Nat.zero_le _
  | t :: T, ks, h => by
    have hc := List.nodup_cons.mp h.1
    have hm : t ∈ ks := h.2 t List.mem_cons_self
    have ih : T.length ≤ (ks.erase t).length := once_len ⟨hc.2, fun x hx => (List.mem_erase_of_ne (fun e => hc.1 (by rw [← e]; exact hx))).mpr (h.2 x (List.mem_cons_of_mem _ hx))⟩
    rw [List.length_erase_of_mem hm] at ih
    have pos : 0 < ks.length := List.length_pos_of_mem hm
    rw [List.length_cons]
    omega
theorem roadF_once {ks : List Int} {M : Int → Int} {e : Int} (a : Int) (r : List Int) {T : List Int} (h : Once ks r) (q : roadF ks M e a r = some T) : Once ks T := by
  by_cases h1 : a = e
  · rw [roadF_end h1] at q
    cases q
    exact h
  · by_cases h2 : a ∈ ks ∧ ¬ a ∈ r
    · rw [roadF_on h1 h2.1 h2.2] at q
      exact roadF_once (M a) (r ++ [a]) (h.snoc h2.1 h2.2) q
    · rw [roadF_no h1 h2] at q
      cases q
termination_by msr ks r
decreasing_by exact msr_lt h2.1 h2.2
theorem reachF_once {ks : List Int} {M : Int → Int} (a : Int) (S : List Int) (h : Once ks S) : Once ks (reachF ks M a S) := by
  by_cases h2 : a ∈ ks ∧ ¬ a ∈ S
  · rw [reachF_on h2.1 h2.2]
    exact reachF_once (M a) (S ++ [a]) (h.snoc h2.1 h2.2)
  · rw [reachF_no h2]
    exact h
termination_by msr ks S
decreasing_by exact msr_lt h2.1 h2.2
inductive Rch (ks : List Int) (M : Int → Int) : Int → Int → Prop
  | here {a : Int} : a ∈ ks → Rch ks M a a
  | step {a x : Int} : a ∈ ks → Rch ks M (M a) x → Rch ks M a x
section
variable {ks : List Int} {M : Int → Int}
theorem Rch.start {a x : Int} (h : Rch ks M a x) : a ∈ ks := by
  cases h with
  | here h => exact h
  | step h _ => exact h
theorem Rch.key {a x : Int} (h : Rch ks M a x) : x ∈ ks := by
  induction h with
  | here h => exact h
  | step _ _ ih => exact ih
def Cld (ks : List Int) (M : Int → Int) (S : List Int) : Prop := ∀ k ∈ S, M k ∈ ks → M k ∈ S
theorem reach_all (a : Int) (S : List Int) (h : ∀ k ∈ S, M k ∈ ks → M k ∈ S ∨ M k = a) :
    Cld ks M (reachF ks M a S) ∧ (∀ x ∈ S, x ∈ reachF ks M a S) ∧ (a ∈ ks → a ∈ reachF ks M a S) ∧ ∀ x ∈ reachF ks M a S, x ∈ S ∨ Rch ks M a x := by
  by_cases h2 : a ∈ ks ∧ ¬ a ∈ S
  · rw [reachF_on h2.1 h2.2]
    have ih := reach_all (M a) (S ++ [a]) (fun k m hk => by
      rcases List.mem_append.mp m with m | m
      · rcases h k m hk with q | q
        · exact .inl (List.mem_append_left _ q)
        · exact .inl (List.mem_append_right _ (by rw [q]; exact List.mem_cons_self))
      · rw [List.mem_singleton.mp m]
        exact .inr rfl)
    refine ⟨ih.1, fun x m => ih.2.1 x (List.mem_append_left _ m), fun _ => ih.2.1 a (List.mem_append_right _ List.mem_cons_self), fun x m => ?_⟩
    rcases ih.2.2.2 x m with m | r
    · rcases List.mem_append.mp m with m | m
      · exact .inl m
      · rw [List.mem_singleton.mp m]
        exact .inr (.here h2.1)
    · exact .inr (.step h2.1 r)
  · rw [reachF_no h2]
    refine ⟨fun k m hk => ?_, fun x m => m, fun ha => Decidable.byContradiction fun n => h2 ⟨ha, n⟩, fun x m => .inl m⟩
    rcases h k m hk with q | q
    · exact q
    · rw [q] at hk ⊢
      exact Decidable.byContradiction fun n => h2 ⟨hk, n⟩
termination_by msr ks S
decreasing_by exact msr_lt h2.1 h2.2
end
abbrev Hm := List (Str × Int)
abbrev Wy := Addr × Str × Int
abbrev Ws := List (Int × Wy)
abbrev Ar := Int × Str × Int
abbrev Cs := List (List Str) × List Ar
def endW (ws : Ws) (k : Int) : Int := ((getA ws k).map fun y => y.2.2).getD 0
theorem endW_of {ws : Ws} {k : Int} {y : Wy} (h : getA ws k = some y) : endW ws k = y.2.2 := by
  unfold endW
  rw [h]
  rfl
/-- the names of a lot, in their order -/
def lotF (ys : List Str) (hm : Hm) (s : Int) : List Str := ys.filter fun n => decide (n ≠ "nil") && decide (getA hm n = some s)
theorem mem_lotF {ys : List Str} {hm : Hm} {s : Int} {n : Str} : n ∈ lotF ys hm s ↔ n ∈ ys ∧ n ≠ "nil" ∧ getA hm n = some s := by
  unfold lotF
  rw [List.mem_filter, Bool.and_eq_true, decide_eq_true_eq, decide_eq_true_eq]
theorem lotF_snoc (ys : List Str) (hm : Hm) (s : Int) (n : Str) : lotF (ys ++ [n]) hm s = lotF ys hm s ++ if n ≠ "nil" ∧ getA hm n = some s then [n] else [] := by
  unfold lotF
  rw [List.filter_append, List.filter_cons, List.filter_nil]
  by_cases h : n ≠ "nil" ∧ getA hm n = some s
  · rw [if_pos h, if_pos (by rw [decide_eq_true h.1, decide_eq_true h.2]; rfl)]
  · rw [if_neg h, if_neg (fun z => h (by rw [Bool.and_eq_true, decide_eq_true_eq, decide_eq_true_eq] at z; exact z))]
/-- each of more put behind, if it is not there yet -/
def addAll (o more : List Int) : List Int := more.foldl (fun o e => if e ∈ o then o else o ++ [e]) o
theorem addAll_snoc (o more : List Int) (e : Int) : addAll o (more ++ [e]) = if e ∈ addAll o more then addAll o more else addAll o more ++ [e] := by
  unfold addAll
  rw [List.foldl_append]
  rfl
theorem mem_addAll {x : Int} : ∀ (more o : List Int), x ∈ addAll o more ↔ x ∈ o ∨ x ∈ more
  | [], o => by
    show x ∈ o ↔ _
    simp
  | e :: more, o => by
    show x ∈ addAll (if e ∈ o then o else o ++ [e]) more ↔ _
    rw [mem_addAll more, List.mem_cons]
    by_cases h : e ∈ o
    · rw [if_pos h]
      exact ⟨fun q => q.elim .inl fun z => .inr (.inr z), fun q => q.elim .inl fun z => z.elim (fun y => .inl (by rw [y]; exact h)) .inr⟩
    · rw [if_neg h, List.mem_append, List.mem_singleton, or_assoc]
theorem addAll_nodup : ∀ (more : List Int) {o : List Int}, o.Nodup → (addAll o more).Nodup
  | [], _, h => h
  | e :: more, o, h => by
    refine addAll_nodup more (o := if e ∈ o then o else o ++ [e]) ?_
    split
    · exact h
    · rename_i n
      exact List.nodup_append.mpr ⟨h, by simp, fun a ha b hb z => n (by rw [List.mem_singleton.mp hb] at z; rw [← z]; exact ha)⟩
theorem addAll_pre : ∀ (more o : List Int), ∃ t, addAll o more = o ++ t
  | [], o => ⟨[], by rw [List.append_nil]; rfl⟩
  | e :: more, o => by
    obtain ⟨t, ht⟩ := addAll_pre more (if e ∈ o then o else o ++ [e])
    show ∃ t, addAll (if e ∈ o then o else o ++ [e]) more = o ++ t
    rw [ht]
    split
    · exact ⟨t, rfl⟩
    · exact ⟨[e] ++ t, by rw [List.append_assoc]⟩
theorem addAll_len : ∀ (more o : List Int), (addAll o more).length ≤ o.length + more.length
  | [], o => Nat.le_refl _
  | e :: more, o => by
    show (addAll (if e ∈ o then o else o ++ [e]) more).length ≤ _
    rw [List.length_cons]
    split
    · have h := addAll_len more o
      omega
    · have h := addAll_len more (o ++ [e])
      rw [List.length_append, List.length_singleton] at h
      omega
/-- one begin gone along -/
def alongF (ws : Ws) (o : List Int) (b : Int) : List Int := addAll o ((reachF (keysA ws) (endW ws) b []).map (endW ws))
def orderF (ws : Ws) (bs o : List Int) : List Int := bs.foldl (alongF ws) o
theorem orderF_snoc (ws : Ws) (bs o : List Int) (b : Int) : orderF ws (bs ++ [b]) o = alongF ws (orderF ws bs o) b := by
  unfold orderF
  rw [List.foldl_append]
  rfl
theorem mem_orderF {ws : Ws} {x : Int} : ∀ (bs o : List Int), x ∈ orderF ws bs o ↔ x ∈ o ∨ ∃ b ∈ bs, x ∈ (reachF (keysA ws) (endW ws) b []).map (endW ws)
  | [], o => by
    show x ∈ o ↔ _
    simp
  | b :: bs, o => by
    show x ∈ orderF ws bs (alongF ws o b) ↔ _
    rw [mem_orderF bs]
    unfold alongF
    rw [mem_addAll, or_assoc]
    simp
theorem orderF_nodup (ws : Ws) : ∀ (bs : List Int) {o : List Int}, o.Nodup → (orderF ws bs o).Nodup
  | [], _, h => h
  | b :: bs, _, h => orderF_nodup ws bs (addAll_nodup _ h)
theorem orderF_pre (ws : Ws) : ∀ (bs o : List Int), ∃ t, orderF ws bs o = o ++ t
  | [], o => ⟨[], by rw [List.append_nil]; rfl⟩
  | b :: bs, o => by
    obtain ⟨t, ht⟩ := orderF_pre ws bs (alongF ws o b)
    obtain ⟨u, hu⟩ := addAll_pre ((reachF (keysA ws) (endW ws) b []).map (endW ws)) o
    refine ⟨u ++ t, ?_⟩
    show orderF ws bs (alongF ws o b) = _
    rw [ht]
    unfold alongF
    rw [hu, List.append_assoc]
/-- where all that is met leads, is met -/
theorem orderF_closed {ws : Ws} {bs : List Int} (h0 : ¬ (0 : Int) ∈ keysA ws) : ∀ y ∈ orderF ws bs (0 :: bs), y ∈ keysA ws → endW ws y ∈ orderF ws bs (0 :: bs) := fun y hy hk => by
  have go : ∀ b, b ∈ bs → ∀ x ∈ reachF (keysA ws) (endW ws) b [], endW ws x ∈ orderF ws bs (0 :: bs) := fun b hb x hx => (mem_orderF bs _).mpr (.inr ⟨b, hb, List.mem_map.mpr ⟨x, hx, rfl⟩⟩)
  have ra := fun b => reach_all (ks := keysA ws) (M := endW ws) b [] (fun k m => absurd m List.not_mem_nil)
  rcases (mem_orderF bs _).mp hy with m | ⟨b, hb, m⟩
  · rcases List.mem_cons.mp m with rfl | m
    · exact absurd hk h0
    · exact go y m y ((ra y).2.2.1 hk)
  · obtain ⟨x, hx, rfl⟩ := List.mem_map.mp m
    exact go b hb _ ((ra b).1 x hx hk)
theorem orderF_sub {ws : Ws} {bs o : List Int} {S : List Int} (h1 : ∀ x ∈ o, x ∈ S) (h2 : ∀ k ∈ keysA ws, endW ws k ∈ S) : ∀ x ∈ orderF ws bs o, x ∈ S := fun x m => by
  rcases (mem_orderF bs o).mp m with m | ⟨b, _, m⟩
  · exact h1 x m
  · obtain ⟨y, hy, rfl⟩ := List.mem_map.mp m
    exact h2 y ((reachF_once b [] Once.nil).2 y hy)
/-- what is asked of the first lots -/
structure Begins (ys : List Str) (hm : Hm) (bs : List Int) : Prop where
  nd : bs.Nodup
  mem : ∀ s, s ∈ bs ↔ s ≠ 0 ∧ lotF ys hm s ≠ []
  srt : (bs.map fun s => (lotF ys hm s, s)).Pairwise fun p q => PySem.W.dataLe false (fun q : List Str × Int => PyData.tuple [.tuple (q.1.map .str), .int q.2]) p q = true
theorem dataLe_srt {β : Type} (enc : β → PyData) (l : List β) : (l.mergeSort (PySem.W.dataLe false enc)).Pairwise fun p q => PySem.W.dataLe false enc p q = true :=
  PySem.W.sort_pairwise (PySem.W.sortLe_total (PyProof.Rows.listOrd PyProof.Rows.itemOrd) false fun b => PySem.W.keyToks (enc b)) l
abbrev encB (q : List Str × Int) : PyData := .tuple [.tuple (q.1.map .str), .int q.2]
theorem begins_of {ys : List Str} {hm : Hm} {ks : List Int} (nd : ks.Nodup) (mem : ∀ s, s ∈ ks ↔ s ≠ 0 ∧ lotF ys hm s ≠ []) : Begins ys hm (((ks.map fun s => (lotF ys hm s, s)).mergeSort (PySem.W.dataLe false encB)).map Prod.snd) := by
  have pm := List.mergeSort_perm (ks.map fun s => (lotF ys hm s, s)) (PySem.W.dataLe false encB)
  have p2 := pm.map Prod.snd
  have e : (ks.map fun s => (lotF ys hm s, s)).map Prod.snd = ks := by
    rw [List.map_map]
    exact List.map_id'' (fun _ => rfl) ks
  rw [e] at p2
  refine ⟨p2.nodup_iff.mpr nd, fun s => (p2.mem_iff).trans (mem s), ?_⟩
  rw [List.map_map]
  have e2 : ((ks.map fun s => (lotF ys hm s, s)).mergeSort (PySem.W.dataLe false encB)).map ((fun s => (lotF ys hm s, s)) ∘ Prod.snd) = (ks.map fun s => (lotF ys hm s, s)).mergeSort (PySem.W.dataLe false encB) := by
    conv => rhs; rw [← List.map_id ((ks.map fun s => (lotF ys hm s, s)).mergeSort (PySem.W.dataLe false encB))]
    refine List.map_congr_left fun q m => ?_
    obtain ⟨s, _, rfl⟩ := List.mem_map.mp (pm.mem_iff.mp m)
    rfl
  rw [e2]
  exact dataLe_srt encB _
theorem paired_maps {α β γ δ : Type} {F : α → β → Prop} {G : γ → δ → Prop} {f : α → γ} {g : β → δ} (h : ∀ a b, F a b → G (f a) (g b)) : ∀ {as : List α} {bs : List β}, Paired F as bs → Paired G (as.map f) (bs.map g)
  | _, _, .nil => .nil
  | _, _, .cons r t => .cons (h _ _ r) (paired_maps h t)
theorem paired_at {α β : Type} {F : α → β → Prop} : ∀ {as : List α} {bs : List β} {i : Nat} {a : α}, Paired F as bs → as[i]? = some a → ∃ b, bs[i]? = some b ∧ F a b
  | _, _, _, _, .nil, e => by cases e
  | _, _, 0, _, .cons r _, e => by
    cases e
    exact ⟨_, rfl, r⟩
  | _, _, i + 1, _, .cons _ t, e => paired_at (i := i) t e
theorem paired_snoc {α β : Type} {F : α → β → Prop} {a : α} {b : β} : ∀ {as : List α} {bs : List β}, Paired F as bs → F a b → Paired F (as ++ [a]) (bs ++ [b])
  | _, _, .nil, h => .cons h .nil
  | _, _, .cons r t, h => .cons r (paired_snoc t h)
theorem paired_mpL {α β : Type} {F G : α → β → Prop} : ∀ {xs : List α} {ys : List β}, Paired F xs ys → (∀ a b, F a b → G a b) → Paired G xs ys
  | _, _, .nil, _ => .nil
  | _, _, .cons r t, h => .cons (h _ _ r) (paired_mpL t h)
abbrev lotsD (lots : List (List Str)) : PyData := .tuple (lots.map fun l => .tuple (l.map .str))
abbrev arD (a : Ar) : PyData := .tuple [.int a.1, .str a.2.1, .int a.2.2]
abbrev caseD (c : Cs) : PyData := .tuple [lotsD c.1, .tuple (c.2.map arD)]
def ixO (o : List Int) (s : Int) : Int := (o.idxOf s : Int)
def arsF (ws : Ws) (o : List Int) : List Ar := (ws.map fun q => (ixO o q.1, q.2.2.1, ixO o q.2.2.2)).mergeSort (PySem.W.dataLe false arD)
def numF (ys : List Str) (hm : Hm) (ws : Ws) (bs : List Int) : Option Cs :=
  if ∀ k ∈ keysA ws, k ∈ orderF ws bs (0 :: bs) then some ((orderF ws bs (0 :: bs)).map (lotF ys hm), arsF ws (orderF ws bs (0 :: bs))) else none
/-- lots are a parting of names -/
theorem flat_perm (ys : List Str) (hm : Hm) : ∀ {o : List Int}, o.Nodup → ((o.map (lotF ys hm)).flatten).Perm (ys.filter fun n => decide (n ≠ "nil") && decide (∃ s ∈ o, getA hm n = some s))
  | [], _ => by
    rw [List.map_nil, List.flatten_nil, List.filter_eq_nil_iff.mpr]
    intro n _ h
    rw [Bool.and_eq_true, decide_eq_true_eq, decide_eq_true_eq] at h
    obtain ⟨_, s, m, _⟩ := h
    exact absurd m List.not_mem_nil
  | s :: o, h => by
    obtain ⟨n1, n2⟩ := List.nodup_cons.mp h
    have ih := flat_perm ys hm n2
    rw [List.map_cons, List.flatten_cons]
    refine ((List.Perm.refl _).append ih).trans ?_
    have e := List.filter_append_perm (fun n => decide (getA hm n = some s)) (ys.filter fun n => decide (n ≠ "nil") && decide (∃ t ∈ s :: o, getA hm n = some t))
    refine List.Perm.trans (List.Perm.of_eq ?_) e
    rw [List.filter_filter, List.filter_filter]
    congr 1
    · unfold lotF
      refine List.filter_congr fun n _ => ?_
      by_cases a : getA hm n = some s
      · have : ∃ t ∈ s :: o, getA hm n = some t := ⟨s, List.mem_cons_self, a⟩
        simp [a, this]
      · simp [a]
    · refine List.filter_congr fun n _ => ?_
      by_cases a : getA hm n = some s
      · have : ¬ ∃ t ∈ o, getA hm n = some t := fun ⟨t, m, q⟩ => n1 (by rw [a] at q; rw [Option.some.inj q]; exact m)
        simp [a, n1]
      · have : (∃ t ∈ s :: o, getA hm n = some t) ↔ ∃ t ∈ o, getA hm n = some t := ⟨fun ⟨t, m, q⟩ => (List.mem_cons.mp m).elim (fun z => absurd (by rw [← z]; exact q) a) fun m => ⟨t, m, q⟩, fun ⟨t, m, q⟩ => ⟨t, List.mem_cons_of_mem _ m, q⟩⟩
        simp [a, this]
end L2.Hx

/-! Short words for what the defs ask. -/
namespace L2.Hx
open PySem PySem.Spec PyProof.Rows
theorem dp_strs {K : PySem.W.Frag} {H : Hp} : ∀ ns : List Str, DpAll K H (ns.map V.str) (ns.map PyData.str)
  | [] => .nil
  | n :: ns => .cons (.str n) (dp_strs ns)
theorem alike_strs : ∀ xs ys : List Str, PySem.W.alikeAll (xs.map PyData.str) (ys.map PyData.str) = true
  | [], _ => by simp [PySem.W.alikeAll]
  | _ :: _, [] => by simp [PySem.W.alikeAll]
  | x :: xs, y :: ys => by
    rw [List.map_cons, List.map_cons, PySem.W.alikeAll, alike_strs xs ys]
    simp [PySem.W.alike]
theorem depth_strs : ∀ xs : List Str, PyData.depthAll (xs.map PyData.str) = 0
  | [] => by simp [PyData.depthAll]
  | x :: xs => by
    rw [List.map_cons, PyData.depthAll, depth_strs xs]
    simp [PyData.depth]
theorem if_yes {c : Bool} {A B : Prop} (h : c = true) (a : A) : if c = true then A else B := by
  rw [h]
  exact a
theorem iteD {c A B : Prop} [Decidable c] (h1 : c → A) (h2 : ¬ c → B) : if decide c = true then A else B := iteB (fun h => h1 (of_decide_eq_true h)) fun h => h2 (of_decide_eq_false h)
theorem iteND {c A B : Prop} [Decidable c] (h1 : ¬ c → A) (h2 : c → B) : if (!decide c) = true then A else B := iteNot (fun h => h1 (of_decide_eq_false h)) fun h => h2 (of_decide_eq_true h)
theorem cut1 {xs : List V} (h : 1 ≤ xs.length) : cutV xs (some 1) none = xs.drop 1 := by
  have e : HT.sIx xs.length 0 (some 1) = 1 := by
    have := HT.sIx_nat xs.length 0 1
    rw [Nat.min_eq_left h] at this
    exact this
  unfold cutV
  rw [HT.sIx_none, e, List.take_of_length_le]
  rw [List.length_drop]
  exact Nat.le_refl _
theorem inV_int {a : Int} : ∀ T : List Int, inV (.int a) (T.map V.int) = decide (a ∈ T)
  | [] => rfl
  | t :: T => by
    have ih := inV_int (a := a) T
    show (eqV (.int t) (.int a) || inV (.int a) (T.map V.int)) = _
    rw [ih]
    have e : eqV (.int t) (.int a) = decide (a = t) := by
      show (t == a) = _
      by_cases h : a = t
      · rw [h, decide_eq_true rfl]
        exact beq_self_eq_true t
      · rw [decide_eq_false h]
        exact beq_eq_false_iff_ne.mpr fun q => h q.symm
    rw [e]
    by_cases h1 : a = t
    · have hm : a ∈ t :: T := by
        rw [h1]
        exact List.mem_cons_self
      rw [decide_eq_true h1, decide_eq_true hm]
      rfl
    · by_cases h2 : a ∈ T
      · rw [decide_eq_true h2, decide_eq_true (List.mem_cons_of_mem _ h2), Bool.or_true]
      · rw [decide_eq_false h1, decide_eq_false h2, decide_eq_false fun q => (List.mem_cons.mp q).elim h1 h2]
        rfl
theorem flat_ints : ∀ T : List Int, (T.map V.int).all flatV = true
  | [] => rfl
  | t :: T => by
    rw [List.map_cons, List.all_cons, flat_ints T]
    rfl
theorem catA_one {K : PySem.W.Frag} {H : Hp} {Q : VK} {la t1 : Addr} {xs : List V} {y : V} (h1 : SqT K H la xs) (h2 : SqT K H t1 [y]) (hz : xs.length + 1 ≤ sizeLine)
    (k : ∀ r H', Same H H' → (r = t1 ∧ xs = [] ∧ H' = H) ∨ (H r = none ∧ H' r = some (.tup (xs ++ [y]))) → Q (.ref r) H') : rCatA K (.ref la) (.ref t1) H Q := by
  refine ⟨la, t1, _, _, rfl, rfl, h1, h2, hz, fun e => ?_, fun e e2 => ?_, fun e e2 q hq => ?_⟩
  · exact k _ _ (Same.refl _) (.inl ⟨rfl, e, rfl⟩)
  · cases e2
  · exact k _ _ (sameAdd hq) (.inr ⟨hq, upd_same⟩)
theorem isA {κ α : Type} [DecidableEq κ] {f : α → V} {l : List (κ × α)} {k : κ} : ((getA l k).map f).isSome = decide (k ∈ keysA l) := by
  by_cases h : k ∈ keysA l
  · obtain ⟨v, e, _⟩ := getA_in h
    rw [e, decide_eq_true h]
    rfl
  · rw [getA_out h, decide_eq_false h]
    rfl
theorem inV_str {a : Str} : ∀ T : List Str, inV (.str a) (T.map V.str) = decide (a ∈ T)
  | [] => rfl
  | t :: T => by
    have ih := inV_str (a := a) T
    show (eqV (.str t) (.str a) || inV (.str a) (T.map V.str)) = _
    rw [ih]
    have e : eqV (.str t) (.str a) = decide (a = t) := by
      show (t == a) = _
      by_cases h : a = t
      · rw [h, decide_eq_true rfl]
        exact beq_self_eq_true t
      · rw [decide_eq_false h]
        exact beq_eq_false_iff_ne.mpr fun q => h q.symm
    rw [e]
    by_cases h : a = t
    · rw [decide_eq_true h, Bool.true_or, decide_eq_true (by rw [h]; exact List.mem_cons_self)]
    · rw [decide_eq_false h, Bool.false_or]
      by_cases h2 : a ∈ T
      · rw [decide_eq_true h2, decide_eq_true (List.mem_cons_of_mem _ h2)]
      · rw [decide_eq_false h2, decide_eq_false fun q => (List.mem_cons.mp q).elim h h2]
theorem flat_strs : ∀ T : List Str, (T.map V.str).all flatV = true
  | [] => rfl
  | t :: T => by
    rw [List.map_cons, List.all_cons, flat_strs T]
    rfl
theorem ord_len {ws : Ws} {bs o : List Int} (nd : o.Nodup) (h : ∀ x ∈ o, x ∈ (0 :: bs) ++ (keysA ws).map (endW ws)) : o.length ≤ 1 + bs.length + ws.length := by
  have := once_len (T := o) (ks := (0 :: bs) ++ (keysA ws).map (endW ws)) ⟨nd, h⟩
  unfold keysA at this
  simp only [List.length_append, List.length_cons, List.length_map] at this
  omega
section
variable {σ : St} {H : Hp} {Q : VK} {D : Ends}
theorem eSeq {a b : TS} : tSeq a b D σ H = a { D with nx := b D } σ H := rfl
theorem eYes {Q : Bool → Hp → Prop} : tYes σ H Q = Q true H := rfl
theorem eIfS {c : TT} {t u : TS} : tIfS c t u D σ H = c σ H (fun b H1 => if b = true then t D σ H1 else u D σ H1) := rfl
theorem eTest {t : TE} {Q : Bool → Hp → Prop} : tTest t σ H Q = t σ H (fun x H' => ∃ k, x = .bl k ∧ Q k H') := rfl
theorem eOp {r : R2} {ta tb : TE} : tOp r ta tb σ H Q = ta σ H (fun x H1 => tb σ H1 fun y H2 => r x y H2 Q) := rfl
theorem eAsg {te : TE} {g : TG} : tAsg te g D σ H = te σ H (fun x H1 => g x σ H1 D.nx) := rfl
theorem eRet {te : TE} : tRet te D σ H = te σ H D.rt := rfl
theorem eTup {t : TA} : tTup t σ H Q = t σ H (fun xs H1 => xs.length ≤ sizeLine ∧ ∀ p, H1 p = none → Q (.ref p) (upd H1 p (.tup xs))) := rfl
theorem eLst {t : TA} : tLst t σ H Q = t σ H (fun xs H1 => xs.length ≤ sizeLine ∧ ∀ p, H1 p = none → Q (.ref p) (upd H1 p (.lst xs))) := rfl
theorem eCons {ta : TE} {tr : TA} {Q : List V → Hp → Prop} : tCons ta tr σ H Q = ta σ H (fun x H1 => tr σ H1 fun xs H2 => Q (x :: xs) H2) := rfl
theorem eCB {r : List V → Hp → VK → Prop} {t : TA} : tCB r t σ H Q = t σ H (fun xs H1 => r xs H1 Q) := rfl
end
theorem merge_kv {κ α : Type} [DecidableEq κ] {ι : κ → Key} {f : α → V} (hi : ∀ a b, ι a = ι b → a = b) : ∀ (l acc : List (κ × α)), (keysA (acc ++ l)).Nodup → mergeK (kvK ι f acc) (kvK ι f l) = kvK ι f (acc ++ l)
  | [], acc, _ => by
    rw [List.append_nil]
    rfl
  | q :: l, acc, h => by
    have e : acc ++ q :: l = (acc ++ [q]) ++ l := by rw [List.append_assoc]; rfl
    have hn : ¬ q.1 ∈ keysA acc := by
      unfold keysA at h ⊢
      rw [List.map_append, List.map_cons] at h
      have := (List.nodup_append.mp h).2.2
      exact fun z => this q.1 z q.1 List.mem_cons_self rfl
    show mergeK (putK (kvK ι f acc) (ι q.1) (f q.2)) (kvK ι f l) = _
    rw [kv_put hi, show putA acc q.1 q.2 = acc ++ [q] by unfold putA; rw [if_neg hn], e]
    rw [e] at h
    exact merge_kv hi l (acc ++ [q]) h
def pl (od : List Int) : List (Int × Int) := od.zipIdx.map fun q => (q.1, (q.2 : Int))
theorem pl_keys (od : List Int) : keysA (pl od) = od := by
  unfold keysA pl
  rw [List.map_map]
  have : ∀ (l : List Int) (k : Nat), (l.zipIdx k).map (Prod.fst ∘ fun q : Int × Nat => (q.1, (q.2 : Int))) = l := by
    intro l
    induction l with
    | nil => intro k; rfl
    | cons x l ih =>
      intro k
      rw [List.zipIdx_cons, List.map_cons, ih]
      rfl
  exact this od 0
theorem pl_merge {od : List Int} (nd : od.Nodup) : mergeK [] (od.zipIdx.map fun q => ((.inl q.1 : Key), V.int (q.2 : Int))) = kvK Sum.inl V.int (pl od) := by
  have h := merge_kv (ι := (Sum.inl : Int → Key)) (f := V.int) inl_inj (pl od) [] (by rw [List.nil_append, pl_keys]; exact nd)
  rw [List.nil_append] at h
  rw [← h]
  unfold kvK pl
  rw [List.map_map]
  rfl
theorem pl_get {od : List Int} {s : Int} (h : s ∈ od) : getA (pl od) s = some (ixO od s) := by
  have : ∀ (l : List Int) (k : Nat), s ∈ l → getA ((l.zipIdx k).map fun q : Int × Nat => (q.1, (q.2 : Int))) s = some ((k + l.idxOf s : Nat) : Int) := by
    intro l
    induction l with
    | nil => intro k m; exact absurd m List.not_mem_nil
    | cons x l ih =>
      intro k m
      rw [List.zipIdx_cons, List.map_cons]
      by_cases e : x = s
      · rw [getA_pos e, e, List.idxOf_cons_self]
        rfl
      · rw [getA_neg e, ih (k + 1) ((List.mem_cons.mp m).elim (fun z => absurd z.symm e) id), show (x :: l).idxOf s = l.idxOf s + 1 by rw [List.idxOf_cons, beq_eq_false_iff_ne.mpr e]; rfl]
        congr 1
        omega
  have h2 := this od 0 h
  rw [Nat.zero_add] at h2
  exact h2
theorem sq_but {K : PySem.W.Frag} {d : Addr} {kvs : List (Key × V)} {H H' : Hp} {a : Addr} {xs : List V} (b : But d H H') (hd : H d = some (.dK kvs)) (h : SqT K H a xs) : SqT K H' a xs := by
  have n : ∀ o, H a = some o → (∀ kvs, o ≠ .dK kvs) → a ≠ d := fun o e z q => by
    rw [q, hd] at e
    exact z kvs (Option.some.inj e).symm
  rcases h with (q | ⟨o, q⟩) | q
  · exact .inl (.inl (b _ _ (n _ q (by intro k z; cases z)) q))
  · exact .inl (.inr ⟨o, b _ _ (n _ q (by intro k z; cases z)) q⟩)
  · exact .inr q
theorem da_lots {K : PySem.W.Frag} {G : Hp} {f : Int → List Str} : ∀ {ls : List Addr} {od : List Int}, Paired (fun a s => SqT K G a ((f s).map V.str)) ls od → DaAll K G (ls.map V.ref) ((od.map f).map fun l => PyData.tuple (l.map PyData.str))
  | _, _, .nil => .nil
  | _, _, .cons h t => .cons (.tup h (da_strs _)) (da_lots t)
theorem da_ars {K : PySem.W.Frag} {G : Hp} : ∀ {zs : List V} {as : List Ar}, Paired (fun z (q : Ar) => ∃ t, z = V.ref t ∧ SqT K G t [.int q.1, .str q.2.1, .int q.2.2]) zs as → DaAll K G zs (as.map arD)
  | _, _, .nil => .nil
  | _, _, .cons ⟨t, e, h⟩ r => by
    subst e
    exact .cons (.tup h (.cons (.int _) (.cons (.str _) (.cons (.int _) .nil)))) (da_ars r)
theorem paired_map1 {α β γ : Type} {F : α → β → Prop} {G : γ → β → Prop} {f : α → γ} (h : ∀ a b, F a b → G (f a) b) : ∀ {as : List α} {bs : List β}, Paired F as bs → Paired G (as.map f) bs
  | _, _, .nil => .nil
  | _, _, .cons r t => .cons (h _ _ r) (paired_map1 h t)
theorem put_by {td ty tv : TE} {D : Ends} {σ : St} {H : Hp} {I : V → Hp → Prop} (h : ∀ Q : VK, (∀ v H2, I v H2 → Q v H2) → tv σ H Q) (k : ∀ v H2, I v H2 → td σ H2 fun x H3 => ty σ H3 fun y H4 => ∃ a H5, x = .ref a ∧ DPut H4 a y v H5 ∧ D.nx σ H5) : sDPut td ty tv D σ H := h _ k
theorem asg_by {t : TE} {σ : St} {H : Hp} {D : Ends} {i : Nat} {I : V → Hp → Prop} (h : ∀ Q : VK, (∀ u H2, I u H2 → Q u H2) → t σ H Q) (k : ∀ u H2, I u H2 → D.nx (σ.set i (some u)) H2) : tAsg t (gName i) D σ H := h _ k
theorem for_rng {t : TE} {g : TG} {tb : TS} {D : Ends} {σ : St} {H : Hp} {I : Nat → Hp → Prop} (h : ∀ Q : VK, (∀ (n : Nat) H2, I n H2 → Q (.int (n : Int)) H2) → t σ H Q) (k : ∀ (n : Nat) H2, I n H2 → tFor (iRng1 (tCons (tC (.int (n : Int))) tNil)) g tb D σ H2) :
    tFor (iRng1 (tCons t tNil)) g tb D σ H := h _ k
theorem op_by {r : R2} {ta tb : TE} {σ : St} {H : Hp} {Q : VK} {I : V → Hp → Prop} (h : ∀ Q : VK, (∀ u H2, I u H2 → Q u H2) → ta σ H Q) (k : ∀ u H2, I u H2 → tb σ H2 fun y H3 => r u y H3 Q) : tOp r ta tb σ H Q := h _ k
def spL (n : Nat) : List Int := (List.range n).map fun i : Nat => 1 + (i : Int)
theorem spL_rg (n : Int) : rgV 1 (n + 1) = (spL n.toNat).map V.int := by
  unfold rgV spL
  rw [List.map_map, show (n + 1 - 1).toNat = n.toNat by congr 1; omega]
  rfl
theorem spL_len (n : Nat) : (spL n).length = n := by
  unfold spL
  rw [List.length_map, List.length_range]
theorem spL_at {n i : Nat} {x : Int} (h : (spL n)[i]? = some x) : x = 1 + (i : Int) ∧ i < n := by
  have hi := (List.getElem?_eq_some_iff.mp h).1
  rw [spL_len] at hi
  unfold spL at h
  rw [List.getElem?_map, List.getElem?_range hi] at h
  exact ⟨(Option.some.inj h).symm, hi⟩
theorem spL_mem {n : Nat} {x : Int} (h : x ∈ spL n) : 1 ≤ x ∧ x ≤ n := by
  obtain ⟨i, e⟩ := List.mem_iff_getElem?.mp h
  have := spL_at e
  omega
end L2.Hx

/-! Lots and arrows are numbered. -/
namespace L2.Hx
open PySem PySem.Spec PyProof.Rows
/-- what is new -/
def Nw (H H' : Hp) : Hp := fun b => if (H b).isNone = true then H' b else none
theorem Nw.of {H H' : Hp} {a : Addr} {o : HO} (h : H a = none) (h' : H' a = some o) : Nw H H' a = some o := by
  unfold Nw
  rw [h]
  exact h'
/-- a new tuple -/
def NT (H H' : Hp) (a : Addr) (xs : List V) : Prop := H a = none ∧ H' a = some (.tup xs)
theorem NT.kp {H H1 H2 : Hp} {d a : Addr} {xs : List V} (h : NT H H1 a xs) (n : a ≠ d) (k : Kp d H1 H2) : NT H H2 a xs := ⟨h.1, k a xs n h.2⟩
theorem NT.same {H H1 H2 : Hp} {a : Addr} {xs : List V} (h : NT H H1 a xs) (k : Same H1 H2) : NT H H2 a xs := ⟨h.1, k _ _ h.2⟩
theorem NT.sq {K : PySem.W.Frag} {H H1 : Hp} {a : Addr} {xs : List V} (h : NT H H1 a xs) : SqT K H1 a xs := SqT.of h.2
theorem NT.nw {K : PySem.W.Frag} {H H1 : Hp} {a : Addr} {xs : List V} (h : NT H H1 a xs) : SqT K (Nw H H1) a xs := SqT.of (Nw.of h.1 h.2)
abbrev wyV (y : Wy) : V := .ref y.1
def spNum (K : PySem.W.Frag) : Sp := fun vs H Q _ => ∃ (h w : Addr) (hm : Hm) (ws : Ws), vs = [.ref h, .ref w] ∧ H h = some (.dK (kvK Sum.inr V.int hm)) ∧ H w = some (.dK (kvK Sum.inl wyV ws)) ∧ (∀ q ∈ ws, SqT K H q.2.1 [.str q.2.2.1, .int q.2.2.2]) ∧
  (keysA hm).Nodup ∧ hm.length < 64 ∧ (keysA ws).Nodup ∧ ws.length < 64 ∧ ¬ (0 : Int) ∈ keysA ws ∧
  ∀ (ys : List Str) (bs : List Int) (v : V) (H' : Hp), ys.Perm (keysA hm) → sortedS ys = true → Begins ys hm bs → Same H H' → ((numF ys hm ws bs = none ∧ v = .non) ∨ ∃ c, numF ys hm ws bs = some c ∧ Da K (Nw H H') v (caseD c)) → Q v H'
section
variable {P : Program} {w : World} {K : PySem.W.Frag} {mg : Str → Option Value} {base : Heap}
theorem D_l_numbered (T : Txt K mg) : Df P w K mg base 1 "_law_numbered" ["home", "ways"] (spNum K) := by
  obtain ⟨f, fd, S⟩ := T.d_l_numbered
  refine Df.mk' (k := 0) S sc_l_numbered (fun vs H Q E h => ?_) (fun cdv A outer s H vs Q E hgd hr h => ?_)
  · obtain ⟨h, w, hm, ws, rfl, _⟩ := h
    rfl
  · obtain ⟨ha, wa, hm, ws, rfl, hH, hW, hWt, ndH, lH, ndW, lW, w0, k⟩ := h
    have hu := hu_of hr
    have big : (2000 : Nat) ≤ sizeLine := by decide
    refine ⟨_, (pss_cons (ps_set (i := 2) sc_l_numbered.nd rfl (.inr rfl) pe_dnewK)
      (pss_cons (ps_for PassesOwn.never rfl (pi_list (pe_callB (call_sortedD rfl) (by rfl) T.b_sorted (by decide +kernel) (pa_cons (pv 0) pa_nil))) (pg_name (i := 3) sc_l_numbered.nd rfl (.inl rfl))
      (pss_one (ps_if (pt_cmpR op_ne (pv 3) pe_str (nomark _)) (pss_one (ps_dput hu (pv 2) (pe_dget hu (pv 0) (pv 3) (fun _ _ => rfl)) (pe_op op_catA (pe_dget2 hu (pv 2) (pe_dget hu (pv 0) (pv 3) (fun _ _ => rfl)) (pe_tup pa_nil) ⟨by rfl, by rfl, by rfl, by rfl⟩) (pe_tup (pa_cons (pv 3) pa_nil))) rfl)) pss_nil)))
      (pss_cons (ps_set (i := 4) sc_l_numbered.nd rfl (.inr rfl) (pe_op op_cat (pe_lst (pa_cons pe_int pa_nil)) (pe_lc (X := (cxOf CX0 P w K mg base ["home", "ways", "rows", "name", "order", "row", "spot", "begin", "seen", "here", "places", "lots", "own"] "_law_numbered" (defScope s_l_numbered) f cdv A outer s H E).nox) (own := [("row", 5), ("spot", 6)]) (g := gTup K 2 (gCons (gName 5) (gCons (gName 6) gNil))) (tt := tYes) (te := tVar 6) rfl sc_l_numbered.nd (pi_list (pe_callB (cr_sortedT2 hr.units) (by rfl) T.b_sorted (by decide +kernel) (pa_cons (pe_lock (pe_lc (own := [("spot", 6)]) (g := gName 6) rfl sc_l_numbered.nd (pi_keys (pv 2)) (blkOk_by (own := [("spot", 6)]) (N := ["home", "ways", "rows", "name", "order", "row", "spot", "begin", "seen", "here", "places", "lots", "own"]) (sc := defScope s_l_numbered) (by decide +kernel)) (fun _ _ _ _ _ => pg_name (i := 6) sc_l_numbered.nd rfl (.inl rfl)) (fun _ _ _ _ _ => (pts_one (pt_cmpR op_ne (pv 6) pe_int (nomark _)))) (fun _ _ _ _ _ => (pe_tup (pa_cons (pe_dget hu (pv 2) (pv 6) (fun _ _ => rfl)) (pa_cons (pv 6) pa_nil)))))) pa_nil))) (blkOk_by (own := [("row", 5), ("spot", 6)]) (N := ["home", "ways", "rows", "name", "order", "row", "spot", "begin", "seen", "here", "places", "lots", "own"]) (sc := defScope s_l_numbered) (by decide +kernel)) (fun _ _ _ _ _ => pg_tup rfl (pgs_cons (pg_name (i := 5) sc_l_numbered.nd rfl (.inl rfl)) (pgs_cons (pg_name (i := 6) sc_l_numbered.nd rfl (.inl rfl)) pgs_nil))) (fun _ _ _ _ _ => pts_nil) (fun _ _ _ _ _ => (pv 6)))))
      (pss_cons (ps_for PassesOwn.never rfl (pi_list (pe_callTy call_list_of (by rfl) T.b_list (by decide +kernel) (pa_cons (pe_slice sl_list (pv 4) (po_some pe_int) po_none) pa_nil))) (pg_name (i := 7) sc_l_numbered.nd rfl (.inl rfl))
      (pss_cons (ps_par (i := 8) (j := 9) (by rfl) sc_l_numbered.nd rfl rfl (by decide) rfl rfl (pa_cons (pe_lst pa_nil) (pa_cons (pv 7) pa_nil)) (by rfl))
      (pss_one (ps_while PassesOwn.never (PW.pt (pw_and (pt_cmp (pc_din hu (pv 9) (pv 1))) (pw_and1 (pt_cmpR op_notIn_seq (pv 9) (pv 8) (by rfl))))) (pss_cons (ps_expr (pe_bm PySem.F.plainAttrs_list PySem.F.slot_list_append PySem.F.type_list_append mt_append (pv 8) (pa_cons (pv 9) pa_nil)))
      (pss_cons (ps_set (i := 9) sc_l_numbered.nd rfl (.inl rfl) (pe_ix ix_tup (pe_dget hu (pv 1) (pv 9) (fun _ _ => rfl)) pe_int (fun _ _ => rfl)))
      (pss_one (ps_if (pt_cmpR op_notIn_seq (pv 9) (pv 4) (by rfl)) (pss_one (ps_expr (pe_bm PySem.F.plainAttrs_list PySem.F.slot_list_append PySem.F.type_list_append mt_append (pv 4) (pa_cons (pv 9) pa_nil)))) pss_nil))))))))
      (pss_cons (ps_if (pt_cmpR (op_neD hr.units) (pe_lock (pe_lc (X := (cxOf CX0 P w K mg base ["home", "ways", "rows", "name", "order", "row", "spot", "begin", "seen", "here", "places", "lots", "own"] "_law_numbered" (defScope s_l_numbered) f cdv A outer s H E).nox) (own := [("begin", 7)]) (g := gName 7) (tt := tTest (tOp (rIn K true) (tVar 7) (tVar 4))) (te := tC (.int 1)) rfl sc_l_numbered.nd (pi_keys (pv 1)) (blkOk_by (own := [("begin", 7)]) (N := ["home", "ways", "rows", "name", "order", "row", "spot", "begin", "seen", "here", "places", "lots", "own"]) (sc := defScope s_l_numbered) (by decide +kernel)) (fun _ _ _ _ _ => pg_name (i := 7) sc_l_numbered.nd rfl (.inl rfl)) (fun _ _ _ _ _ => (pts_one (pt_cmpR op_notIn_seq (pv 7) (pv 4) (by rfl)))) (fun _ _ _ _ _ => pe_int))) (pe_lst pa_nil) (nomark _)) (pss_one (ps_ret pe_non)) pss_nil)
      (pss_cons (ps_set (i := 10) sc_l_numbered.nd rfl (.inr rfl) (pe_dictZipR rfl (by rfl) T.b_dict (by rfl) T.b_zip (pa_cons (pv 4) (pa_cons (pe_callTy cr_rng1 (by rfl) T.b_range (by decide +kernel) (pa_cons (pe_callB call_len_seq (by rfl) T.b_len (by decide +kernel) (pa_cons (pv 4) pa_nil)) pa_nil)) pa_nil))))
      (pss_cons (ps_set (i := 11) sc_l_numbered.nd rfl (.inl rfl) (pe_callTy call_tuple_of (by rfl) T.b_tuple (by decide +kernel) (pa_cons (pe_lc (own := [("spot", 6)]) (g := gName 6) (tt := tYes) rfl sc_l_numbered.nd (pi_list (pv 4)) (blkOk_by (own := [("spot", 6)]) (N := ["home", "ways", "rows", "name", "order", "row", "spot", "begin", "seen", "here", "places", "lots", "own"]) (sc := defScope s_l_numbered) (by decide +kernel)) (fun _ _ _ _ _ => pg_name (i := 6) sc_l_numbered.nd rfl (.inl rfl)) (fun _ _ _ _ _ => pts_nil) (fun _ _ _ _ _ => (pe_dget2 hu (pv 2) (pv 6) (pe_tup pa_nil) ⟨by rfl, by rfl, by rfl, by rfl⟩))) pa_nil)))
      (pss_one (ps_ret (pe_tup (pa_cons (pv 11) (pa_cons (pe_callTy call_tuple_of (by rfl) T.b_tuple (by decide +kernel) (pa_cons (pe_callB (cr_sortedT2 hr.units) (by rfl) T.b_sorted (by decide +kernel) (pa_cons (pe_lock (pe_lc (X := (cxOf CX0 P w K mg base ["home", "ways", "rows", "name", "order", "row", "spot", "begin", "seen", "here", "places", "lots", "own"] "_law_numbered" (defScope s_l_numbered) f cdv A outer s H E).nox) (own := [("own", 12)]) (g := gName 12) (tt := tYes) (te := tTup (tCons (tDGet (tVar 10) (tVar 12)) (tCons (tOp (rIxT K) (tDGet (tVar 1) (tVar 12)) (tC (.int 0))) (tCons (tDGet (tVar 10) (tOp (rIxT K) (tDGet (tVar 1) (tVar 12)) (tC (.int 1)))) tNil)))) rfl sc_l_numbered.nd (pi_keys (pv 1)) (blkOk_by (own := [("own", 12)]) (N := ["home", "ways", "rows", "name", "order", "row", "spot", "begin", "seen", "here", "places", "lots", "own"]) (sc := defScope s_l_numbered) (by decide +kernel)) (fun _ _ _ _ _ => pg_name (i := 12) sc_l_numbered.nd rfl (.inl rfl)) (fun _ _ _ _ _ => pts_nil) (fun _ _ _ _ _ => (pe_tup (pa_cons (pe_dget hu (pv 10) (pv 12) (fun _ _ => rfl)) (pa_cons (pe_ix ix_tup (pe_dget hu (pv 1) (pv 12) (fun _ _ => rfl)) pe_int (fun _ _ => rfl)) (pa_cons (pe_dget hu (pv 10) (pe_ix ix_tup (pe_dget hu (pv 1) (pv 12) (fun _ _ => rfl)) pe_int (fun _ _ => rfl)) (fun _ _ => rfl)) pa_nil))))))) pa_nil)) pa_nil)) pa_nil)))))))))))), ?_⟩
    refine fun R hR => ?_
    dsimp only [gName, List.set]
    have hH0 : (upd H R (.dK [])) ha = some (.dK (kvK Sum.inr V.int hm)) := sameAdd hR _ _ hH
    refine ⟨_, rfl, ha, _, keysA hm, rfl, .of hH0, by unfold kvK keysA; rw [List.map_map, List.map_map]; rfl, by unfold keysA; rw [List.length_map]; exact lH, fun ys p perm srt hp => ?_⟩
    have kin : ∀ n ∈ ys, ∃ v, getA hm n = some v := fun n m => by
      obtain ⟨v, e, _⟩ := getA_in (perm.mem_iff.mp m)
      exact ⟨v, e⟩
    have ly : ys.length < 64 := by
      rw [perm.length_eq]
      unfold keysA
      rw [List.length_map]
      exact lH
    have s1 : Same H (upd (upd H R (.dK [])) p (.lst (ys.map V.str))) := (sameAdd hR).trans (sameAdd hp)
    have nRp : R ≠ p := fun e => by
      rw [← e, upd_same] at hp
      cases hp
    have R1 : (upd (upd H R (.dK [])) p (.lst (ys.map V.str))) R = some (.dK (kvK Sum.inl V.ref ([] : List (Int × Addr)))) := by rw [upd_ne nRp, upd_same]; rfl
    have p1 : (upd (upd H R (.dK [])) p (.lst (ys.map V.str))) p = some (.lst (ys.map V.str)) := upd_same
    generalize upd (upd H R (.dK [])) p (.lst (ys.map V.str)) = H1 at s1 R1 p1 ⊢
    clear hp hH0
    refine ⟨p, rfl, ⟨_, SqL.of p1⟩, for_list (K := K) (a := p) (xs := ys.map V.str) (fun i σ H3 => ∃ o3, σ = [some (.ref ha), some (.ref wa), some (.ref R), o3, none, none, none, none, none, none, none, none, none] ∧ Same H H3 ∧ H3 p = some (.lst (ys.map V.str)) ∧
        ∃ rs : List (Int × Addr), H3 R = some (.dK (kvK Sum.inl V.ref rs)) ∧ (keysA rs).Nodup ∧ rs.length ≤ i ∧ (∀ s, s ∈ keysA rs ↔ lotF (ys.take i) hm s ≠ []) ∧ ∀ q ∈ rs, NT H H3 q.2 ((lotF (ys.take i) hm q.1).map V.str))
      ⟨none, rfl, s1, p1, [], R1, List.nodup_nil, Nat.le_refl _, fun s => ⟨fun m => absurd m List.not_mem_nil, fun z => absurd rfl z⟩, fun q m => absurd m List.not_mem_nil⟩ (fun i σ H3 _ ⟨_, _, _, h, _⟩ => SqL.of h) ?_ ?_⟩
    · rintro i x σ H3 hx ⟨o3, rfl, s3, p3, rs, R3, nd3, l3, mem3, nt3⟩
      have hi := (List.getElem?_eq_some_iff.mp hx).1
      rw [List.length_map] at hi
      obtain ⟨n, hn, rfl⟩ : ∃ n, ys[i]? = some n ∧ x = V.str n := by
        rw [List.getElem?_map] at hx
        obtain ⟨n, e, q⟩ := Option.map_eq_some_iff.mp hx
        exact ⟨n, e, q.symm⟩
      have tk : ys.take (i + 1) = ys.take i ++ [n] := by rw [List.take_add_one, hn]; rfl
      obtain ⟨sv, hsv⟩ := kin n (List.mem_of_getElem? hn)
      dsimp only [gName, List.set]
      refine ⟨_, rfl, rfl, _, rfl, ?_⟩
      by_cases en : n = ("nil" : Str)
      · rw [decide_eq_true (show V.str n = V.str "nil" by rw [en])]
        refine if_no rfl ⟨_, rfl, s3, p3, rs, R3, nd3, Nat.le_succ_of_le l3, ?_, ?_⟩
        · intro s
          rw [tk, lotF_snoc, if_neg (fun z => z.1 en), List.append_nil]
          exact mem3 s
        · intro q m
          rw [tk, lotF_snoc, if_neg (fun z => z.1 en), List.append_nil]
          exact nt3 q m
      · rw [decide_eq_false (show ¬ V.str n = V.str "nil" from fun e => en (V.str.inj e))]
        refine if_yes rfl ?_
        have hH3 := s3 _ _ hH
        have gh : ∀ H4, Same H H4 → DGet H4 ha (.str n) (some (.int sv)) := fun H4 s4 => by
          have := dgetS (f := V.int) (s4 _ _ hH) n
          rw [hsv] at this
          exact this
        refine ⟨_, rfl, R, rfl, .inl ⟨_, .of R3⟩, _, rfl, _, rfl, ha, _, rfl, gh H3 s3, Nat.zero_le _, fun t0 ht0 => ?_⟩
        have a0 : Same H3 (upd H3 t0 (.tup [])) := sameAdd ht0
        refine ⟨_, dgetI (f := V.ref) (a0 _ _ R3) sv, _, rfl, by show 1 ≤ sizeLine; decide, fun t1 ht1 => ?_⟩
        have a1 : Same H3 (upd (upd H3 t0 (.tup [])) t1 (.tup [V.str n])) := a0.trans (sameAdd ht1)
        have T0 : (upd (upd H3 t0 (.tup [])) t1 (.tup [V.str n])) t0 = some (.tup []) := sameAdd ht1 _ _ upd_same
        have T1 : (upd (upd H3 t0 (.tup [])) t1 (.tup [V.str n])) t1 = some (.tup [V.str n]) := upd_same
        have n0 : H t0 = none := s3.free ht0
        have n1 : H t1 = none := s3.free (a0.free ht1)
        generalize upd (upd H3 t0 (.tup [])) t1 (.tup [V.str n]) = H5 at a1 T0 T1 ⊢
        obtain ⟨la, eL, nL⟩ : ∃ la, ((getA rs sv).map V.ref).getD (.ref t0) = .ref la ∧ NT H H5 la ((lotF (ys.take i) hm sv).map V.str) := by
          cases e : getA rs sv with
          | some a => exact ⟨a, rfl, (nt3 _ (getA_mem e)).same a1⟩
          | none =>
            refine ⟨t0, rfl, n0, ?_⟩
            have : lotF (ys.take i) hm sv = [] := by
              apply Classical.byContradiction
              intro z
              obtain ⟨v, q, _⟩ := getA_in ((mem3 sv).mpr z)
              rw [e] at q
              cases q
            rw [this]
            exact T0
        rw [eL]
        clear a0 ht0 ht1 eL T0 n0
        have en2 : lotF (ys.take (i + 1)) hm sv = lotF (ys.take i) hm sv ++ [n] := by rw [tk, lotF_snoc, if_pos ⟨en, hsv⟩]
        have em : ∀ s, s ≠ sv → lotF (ys.take (i + 1)) hm s = lotF (ys.take i) hm s := fun s ns => by
          rw [tk, lotF_snoc, if_neg (fun z => ns (by rw [hsv] at z; exact (Option.some.inj z.2).symm)), List.append_nil]
        have lL : (lotF (ys.take i) hm sv).length ≤ 64 := by
          have := List.length_filter_le (fun n => decide (n ≠ ("nil" : Str)) && decide (getA hm n = some sv)) (ys.take i)
          rw [List.length_take] at this
          unfold lotF
          omega
        refine catA_one nL.sq (SqT.of T1) (by rw [List.length_map]; omega) (fun r H6 s66 hr6 => ?_)
        have nr : NT H H6 r ((lotF (ys.take (i + 1)) hm sv).map V.str) := by
          rw [en2, List.map_append]
          rcases hr6 with ⟨rfl, e, rfl⟩ | ⟨e, e2⟩
          · rw [e]
            exact ⟨n1, T1⟩
          · exact ⟨(s3.trans a1).free e, e2⟩
        have s36 := a1.trans s66
        have nR : ∀ a xs, NT H H6 a xs → a ≠ R := fun a xs h e => by
          have := s36 _ _ R3
          rw [← e, h.2] at this
          cases this
        refine ⟨_, rfl, _, rfl, _, rfl, ha, _, rfl, gh H6 (s3.trans s36), R, _, rfl, dputI (f := V.ref) (s36 _ _ R3) sv r (by omega), ?_⟩
        have kp : Kp R H6 (upd H6 R (.dK (kvK Sum.inl V.ref (putA rs sv r)))) := fun b ys n q => by rw [upd_ne n]; exact q
        refine ⟨_, rfl, sameOut (s3.trans s36) hR, by rw [upd_ne (by intro e; have := s36 _ _ R3; rw [← e, s36 _ _ p3] at this; cases this)]; exact s36 _ _ p3, putA rs sv r, upd_same, putA_nodup nd3, by have := putA_len rs sv r; omega, fun s => ?_, fun q m => ?_⟩
        · rw [putA_keys, mem3 s]
          by_cases es : s = sv
          · rw [es, en2]
            exact ⟨fun _ z => by simp at z, fun _ => .inr rfl⟩
          · rw [em s es]
            exact ⟨fun z => z.elim id fun y => absurd y es, .inl⟩
        · by_cases es : q.1 = sv
          · have : q.2 = r := by
              have h1 := mem_getA (putA_nodup (k := sv) (v := r) nd3) (show (q.1, q.2) ∈ putA rs sv r from m)
              rw [get_putA, if_pos es] at h1
              exact (Option.some.inj h1).symm
            rw [this, es]
            exact nr.kp (nR _ _ nr) kp
          · have h1 := mem_getA (putA_nodup (k := sv) (v := r) nd3) (show (q.1, q.2) ∈ putA rs sv r from m)
            rw [get_putA, if_neg es] at h1
            rw [em _ es]
            have := (nt3 _ (getA_mem h1)).same s36
            exact this.kp (nR _ _ this) kp
    · rintro σ H3 ⟨o3, rfl, s3, p3, rs, R3, nd3, l3, mem3, nt3⟩
      rw [List.length_map, List.take_length] at mem3 nt3
      rw [List.length_map] at l3
      clear R1 p1 s1
      dsimp only [gName, List.set]
      refine ⟨by show 1 ≤ sizeLine; decide, fun L0 hL0 => ?_⟩
      have s4 := s3.trans (sameAdd (o := .lst [V.int 0]) hL0)
      have R4 := sameAdd (o := .lst [V.int 0]) hL0 _ _ R3
      have L4 : (upd H3 L0 (.lst [V.int 0])) L0 = some (.lst [V.int 0]) := upd_same
      have nt4 : ∀ q ∈ rs, NT H (upd H3 L0 (.lst [V.int 0])) q.2 ((lotF ys hm q.1).map V.str) := fun q m => (nt3 q m).same (sameAdd hL0)
      generalize upd H3 L0 (.lst [V.int 0]) = H4 at s4 R4 L4 nt4 ⊢
      clear hL0 nt3 R3 p3 s3
      have nR : ∀ Hx a xs, Same H4 Hx → NT H Hx a xs → a ≠ R := fun Hx a xs sx h e => by
        have := sx _ _ R4
        rw [← e, h.2] at this
        cases this
      refine lc_keys (d := R) (kvs := kvK Sum.inl V.ref rs) rfl R4 (fun i xs Hx => ∃ ts : List Addr, xs = ts.map V.ref ∧ Paired (fun (t : Addr) (s : Int) => ∃ a, t ≠ R ∧ a ≠ R ∧ Hx t = some (.tup [.ref a, .int s]) ∧ NT H Hx a ((lotF ys hm s).map V.str)) ts (((rs.take i).map Prod.fst).filter fun s => decide (s ≠ 0)))
        ?_ ⟨[], rfl, .nil⟩ ?_ (by rw [kv_len]; omega) ?_
      · rintro i xs H5 H6 kp ⟨ts, rfl, pr⟩
        exact ⟨ts, rfl, paired_mpL pr fun t s ⟨a, nt, na, h1, h2⟩ => ⟨a, nt, na, kp t _ nt h1, h2.kp na kp⟩⟩
      · rintro od i kk v H5 xs Ny Nn hk fz b5 ⟨ts, rfl, pr⟩ lx yes no
        obtain ⟨⟨s, a⟩, hr, e⟩ : ∃ q, rs[i]? = some q ∧ (Sum.inl q.1, V.ref q.2) = (kk, v) := by
          unfold kvK at hk
          rw [List.getElem?_map] at hk
          obtain ⟨q, e1, e2⟩ := Option.map_eq_some_iff.mp hk
          exact ⟨q, e1, e2⟩
        cases e
        have tk : (rs.take (i + 1)).map Prod.fst = (rs.take i).map Prod.fst ++ [s] := by rw [List.take_add_one, hr, List.map_append]; rfl
        have m := List.mem_of_getElem? hr
        refine ⟨_, rfl, rfl, _, rfl, ?_⟩
        by_cases e0 : s = 0
        · rw [decide_eq_true (show kV (Sum.inl s) = V.int 0 by rw [e0]; rfl)]
          refine if_no rfl (no H5 fz (But.refl _ _) ⟨ts, rfl, ?_⟩)
          rw [tk, List.filter_append, List.filter_cons_of_neg (by simp [e0]), List.filter_nil, List.append_nil]
          exact pr
        · rw [decide_eq_false (show ¬ kV (Sum.inl s) = V.int 0 from fun z => e0 (V.int.inj z))]
          refine if_yes rfl ?_
          have hg : DGet H5 R (.int s) (some (.ref a)) := by
            have := dgetIR (f := V.ref) (.inr ⟨od, fz⟩) s
            rw [mem_getA nd3 m] at this
            exact this
          refine ⟨_, rfl, _, rfl, R, _, rfl, hg, _, rfl, by show 2 ≤ sizeLine; decide, fun t ht => ?_⟩
          have ntR : t ≠ R := fun z => by
            rw [z, fz] at ht
            cases ht
          have na : a ≠ R := nR H4 a _ (Same.refl _) (nt4 _ m)
          have b6 : But R H5 (upd H5 t (.tup [V.ref a, V.int s])) := (But.refl R H5).add ht
          refine yes _ _ (by rw [upd_ne ntR.symm]; exact fz) b6 ⟨ts ++ [t], by rw [List.map_append]; rfl, ?_⟩
          rw [tk, List.filter_append, List.filter_cons_of_pos (by simp [e0]), List.filter_nil]
          refine paired_snoc (paired_mpL pr fun t s ⟨a, nt, na, h1, h2⟩ => ⟨a, nt, na, b6 _ _ nt h1, h2.1, b6 _ _ na h2.2⟩) ⟨a, ntR, na, upd_same, (nt4 _ m).1, b6 _ _ na (b5 _ _ na (nt4 _ m).2)⟩
      · rintro L1 xs H5 s45 hL1 L5 ⟨ts, rfl, pr⟩ lx
        rw [kv_len] at lx
        rw [kv_len, List.take_length] at pr
        have s5 := s4.trans s45
        have L05 := s45 _ _ L4
        have R5 := s45 _ _ R4
        have nt5 : ∀ q ∈ rs, NT H H5 q.2 ((lotF ys hm q.1).map V.str) := fun q m => (nt4 q m).same s45
        clear nt4 L4 R4 s45 s4
        generalize hks : ((rs.map Prod.fst).filter fun s => decide (s ≠ 0)) = ks at pr
        have ndk : ks.Nodup := by
          rw [← hks]
          exact nd3.filter _
        have memk : ∀ s, s ∈ ks ↔ s ≠ 0 ∧ lotF ys hm s ≠ [] := fun s => by
          rw [← hks, List.mem_filter, decide_eq_true_eq, ← mem3 s]
          exact and_comm
        have lk : ks.length < 64 := by
          have h1 := List.length_filter_le (fun s : Int => decide (s ≠ 0)) (rs.map Prod.fst)
          rw [hks, List.length_map] at h1
          omega
        refine ⟨L1, ts.map V.ref, List Str × Int, ks.map fun s => (lotF ys hm s, s), encB, fun x b => ∃ t a, x = V.ref t ∧ SqT K H5 t [.ref a, .int b.2], rfl, SqL.of L5, fun x m => ?_, ?_, ?_, ?_, ?_, ?_, fun zs p2 pz prz hp2 => ?_⟩
        · obtain ⟨t, _, rfl⟩ := List.mem_map.mp m
          exact ⟨t, rfl⟩
        · exact paired_maps (fun t s ⟨a, _, _, h1, _⟩ => ⟨t, a, rfl, SqT.of h1⟩) pr
        · exact paired_maps (fun t s ⟨a, _, _, h1, h2⟩ => .tup (SqT.of h1) (.cons (.tup h2.sq (dp_strs _)) (.cons (.int _) .nil))) pr
        · intro b b'
          simp [encB, PySem.W.alike, PySem.W.alikeAll, alike_strs]
        · exact fun b => ⟨_, _, rfl⟩
        · intro b _
          have := depth_strs b.1
          simp only [encB, PyData.depth, PyData.depthAll]
          omega
        · have s6 := s5.trans (sameAdd (o := .lst zs) hp2)
          have s66 : Same H5 (upd H5 p2 (.lst zs)) := sameAdd hp2
          have L06 := s66 _ _ L05
          have R6 := s66 _ _ R5
          have p26 : (upd H5 p2 (.lst zs)) p2 = some (.lst zs) := upd_same
          generalize upd H5 p2 (.lst zs) = H6 at s6 s66 L06 R6 p26 ⊢
          have lz : zs.length < 64 := by
            have h1 := pz.length_eq
            rw [List.length_map, Paired.length pr] at h1
            omega
          generalize hBS : (ks.map fun s => (lotF ys hm s, s)).mergeSort (PySem.W.dataLe false encB) = BS at prz
          have beg := begins_of (ys := ys) (hm := hm) ndk memk
          rw [hBS] at beg
          have lB : zs.length = BS.length := Paired.length prz
          refine ⟨p2, rfl, ⟨_, SqL.of p26⟩, fun D hD => lc_list (K := K) (a := p2) (xs := zs) (fun i H7 => Same H6 H7 ∧ H7 D = some (.lst (((BS.take i).map Prod.snd).map V.int))) ⟨sameAdd hD, upd_same⟩ (fun i H7 _ h => SqL.of (h.1 _ _ p26)) ?_ ?_⟩
          · rintro i x H7 hx ⟨s7, D7⟩
            obtain ⟨b, hb, t, a, rfl, tT⟩ := paired_at prz hx
            have tk : BS.take (i + 1) = BS.take i ++ [b] := by rw [List.take_add_one, hb]; rfl
            have hi := (List.getElem?_eq_some_iff.mp hx).1
            refine ⟨t, _, rfl, sameT (s66.trans s7) tT, rfl, _, _, rfl, _, _, rfl, rfl, ?_⟩
            refine ⟨rfl, _, rfl, _, D7, by rw [List.length_map, List.length_map, List.length_take]; omega, sameOut s7 hD, ?_⟩
            rw [upd_same, tk, List.map_append, List.map_append]
            rfl
          · rintro H7 ⟨s7, D7⟩
            rw [lB, List.take_length] at D7
            have lbs : (BS.map Prod.snd).length < 64 := by
              rw [List.length_map, ← lB]
              exact lz
            generalize BS.map Prod.snd = bs at D7 beg lbs
            refine ⟨L0, D, _, _, rfl, rfl, s7 _ _ L06, D7, by simp only [List.length_map, List.length_cons, List.length_nil]; omega, fun O hO => ?_⟩
            have s8 := (s6.trans s7).trans (sameAdd (o := .lst ([V.int 0] ++ bs.map V.int)) hO)
            have R8 := sameAdd (o := .lst ([V.int 0] ++ bs.map V.int)) hO _ _ (s7 _ _ R6)
            have O8 : (upd H7 O (.lst ([V.int 0] ++ bs.map V.int))) O = some (.lst ((0 :: bs).map V.int)) := upd_same
            have nt8 : ∀ q ∈ rs, NT H (upd H7 O (.lst ([V.int 0] ++ bs.map V.int))) q.2 ((lotF ys hm q.1).map V.str) := fun q m => (nt5 q m).same ((s66.trans s7).trans (sameAdd hO))
            have O0 : H O = none := (s6.trans s7).free hO
            generalize upd H7 O (.lst ([V.int 0] ++ bs.map V.int)) = H8 at s8 R8 O8 nt8 ⊢
            clear D7 hD hO s7 s6 s66 L06 R6 p26 prz hBS hp2 pz nt5 R5 L05 L5 pr hL1 lx s5 nR lz lB
            dsimp only [gName, List.set]
            refine ⟨_, rfl, _, rfl, O, _, rfl, SqL.of O8, fun S1 hS1 => ?_⟩
            rw [cut1 (by simp)]
            have e8 : ((0 :: bs).map V.int).drop 1 = bs.map V.int := rfl
            rw [e8]
            refine ⟨S1, _, rfl, .inl (SqL.of upd_same), fun S2 hS2 => ?_⟩
            have s89 : Same H8 (upd (upd H8 S1 (.lst (bs.map V.int))) S2 (.lst (bs.map V.int))) := (sameAdd hS1).trans (sameAdd hS2)
            have s9 := s8.trans s89
            have B9 : (upd (upd H8 S1 (.lst (bs.map V.int))) S2 (.lst (bs.map V.int))) S2 = some (.lst (bs.map V.int)) := upd_same
            have O9 := s89 _ _ O8
            have R9 := s89 _ _ R8
            have nt9 := fun q m => (nt8 q m).same s89
            have nOS : O ≠ S2 := fun e => by
              rw [← e, sameAdd hS1 _ _ O8] at hS2
              cases hS2
            have nRO : R ≠ O := fun e => by
              rw [e, O8] at R8
              cases R8
            generalize upd (upd H8 S1 (.lst (bs.map V.int))) S2 (.lst (bs.map V.int)) = H9 at s89 s9 B9 O9 R9 nt9 ⊢
            clear hS1 hS2 s89 s8 R8 O8 nt8
            have nO : ∀ Hx a xs cs, Hx O = some (.lst cs) → NT H Hx a xs → a ≠ O := fun Hx a xs cs ho h e => by
              rw [← e, h.2] at ho
              cases ho
            have nO2 : ∀ Hx a xs (Z : Addr) cs, Hx Z = some (.lst cs) → NT H Hx a xs → a ≠ Z := fun Hx a xs Z cs ho h e => by
              rw [← e, h.2] at ho
              cases ho
            refine ⟨S2, rfl, ⟨_, SqL.of B9⟩, for_list (K := K) (a := S2) (xs := bs.map V.int) (fun i σ Hx => ∃ o3 o5 o6 o7 o8 o9, σ = [some (.ref ha), some (.ref wa), some (.ref R), o3, some (.ref O), o5, o6, o7, o8, o9, none, none, none] ∧ Same H Hx ∧ Hx S2 = some (.lst (bs.map V.int)) ∧ Hx R = some (.dK (kvK Sum.inl V.ref rs)) ∧
                (∀ q ∈ rs, NT H Hx q.2 ((lotF ys hm q.1).map V.str)) ∧ Hx O = some (.lst ((orderF ws (bs.take i) (0 :: bs)).map V.int)))
              ⟨_, _, _, _, _, _, rfl, s9, B9, R9, nt9, O9⟩ (fun i σ Hx _ ⟨_, _, _, _, _, _, _, _, h, _⟩ => SqL.of h) ?_ ?_⟩
            · rintro i x σ Hx hx ⟨o3, o5, o6, o7, o8, o9, rfl, sx, Bx, Rx, ntx, Ox⟩
              obtain ⟨b, hb, rfl⟩ : ∃ b, bs[i]? = some b ∧ x = V.int b := by
                rw [List.getElem?_map] at hx
                obtain ⟨n, e, q⟩ := Option.map_eq_some_iff.mp hx
                exact ⟨n, e, q.symm⟩
              have tk : bs.take (i + 1) = bs.take i ++ [b] := by rw [List.take_add_one, hb]; rfl
              dsimp only [gName, List.set]
              refine ⟨Nat.zero_le _, fun Z hZ => ⟨_, rfl, _, _, rfl, ?_⟩⟩
              have sy := sx.trans (sameAdd (o := .lst []) hZ)
              have Z0 : H Z = none := sx.free hZ
              have By := sameAdd (o := .lst []) hZ _ _ Bx
              have Ry := sameAdd (o := .lst []) hZ _ _ Rx
              have Oy := sameAdd (o := .lst []) hZ _ _ Ox
              have nty := fun q m => (ntx q m).same (sameAdd (o := .lst []) hZ)
              have Zy : (upd Hx Z (.lst [])) Z = some (.lst (([] : List Int).map V.int)) := upd_same
              have nZO : Z ≠ O := fun e => by rw [e, Ox] at hZ; cases hZ
              have nZS : Z ≠ S2 := fun e => by rw [e, Bx] at hZ; cases hZ
              generalize upd Hx Z (.lst []) = Hy at sy By Ry Oy nty Zy ⊢
              clear hZ Bx Rx ntx Ox sx
              generalize ho0 : orderF ws (bs.take i) (0 :: bs) = od at Oy
              dsimp only [gName, List.set]
              refine ⟨fun m σ Hz => ∃ v Tk, σ = [some (.ref ha), some (.ref wa), some (.ref R), o3, some (.ref O), o5, o6, some (.int b), some (.ref Z), some (.int v), none, none, none] ∧ m = msr (keysA ws) Tk ∧ Same H Hz ∧ Hz S2 = some (.lst (bs.map V.int)) ∧ Hz R = some (.dK (kvK Sum.inl V.ref rs)) ∧
                  (∀ q ∈ rs, NT H Hz q.2 ((lotF ys hm q.1).map V.str)) ∧ Hz O = some (.lst ((addAll od (Tk.map (endW ws))).map V.int)) ∧ Hz Z = some (.lst (Tk.map V.int)) ∧ Once (keysA ws) Tk ∧ reachF (keysA ws) (endW ws) b [] = reachF (keysA ws) (endW ws) v Tk,
                ⟨_, b, [], rfl, rfl, sy, By, Ry, nty, Oy, Zy, Once.nil, rfl⟩, ?_⟩
              rintro m σ Hz ⟨v, Tk, rfl, rfl, sz, Bz, Rz, ntz, Oz, Zz, on, rc⟩
              have ndO : (addAll od (Tk.map (endW ws))).Nodup := by
                rw [← ho0]
                exact addAll_nodup _ (orderF_nodup ws _ (List.nodup_cons.mpr ⟨fun m => ((beg.mem 0).mp m).1 rfl, beg.nd⟩))
              have lO : (addAll od (Tk.map (endW ws))).length ≤ 1 + bs.length + ws.length := by
                refine ord_len ndO fun y my => ?_
                rcases (mem_addAll _ _).mp my with my | my
                · rw [← ho0] at my
                  exact orderF_sub (fun z m => List.mem_append_left _ m) (fun k m => List.mem_append_right _ (List.mem_map.mpr ⟨k, m, rfl⟩)) y my
                · obtain ⟨z, mz, rfl⟩ := List.mem_map.mp my
                  exact List.mem_append_right _ (List.mem_map.mpr ⟨z, on.2 z mz, rfl⟩)
              have lT : Tk.length < 64 := by
                have := once_len on
                unfold keysA at this
                rw [List.length_map] at this
                omega
              have stop : ¬ (v ∈ keysA ws ∧ ¬ v ∈ Tk) → ∃ o3' o5' o6' o7 o8 o9, ([some (.ref ha), some (.ref wa), some (.ref R), o3, some (.ref O), o5, o6, some (.int b), some (.ref Z), some (.int v), none, none, none] : St) = [some (.ref ha), some (.ref wa), some (.ref R), o3', some (.ref O), o5', o6', o7, o8, o9, none, none, none] ∧ Same H Hz ∧ Hz S2 = some (.lst (bs.map V.int)) ∧ Hz R = some (.dK (kvK Sum.inl V.ref rs)) ∧
                  (∀ q ∈ rs, NT H Hz q.2 ((lotF ys hm q.1).map V.str)) ∧ Hz O = some (.lst ((orderF ws (bs.take (i + 1)) (0 :: bs)).map V.int)) := fun hn => by
                rw [reachF_no hn] at rc
                refine ⟨_, _, _, _, _, _, rfl, sz, Bz, Rz, ntz, ?_⟩
                rw [tk, orderF_snoc, ho0]
                unfold alongF
                rw [rc]
                exact Oz
              refine ⟨_, rfl, _, rfl, wa, _, rfl, dgetI (f := wyV) (sz _ _ hW) v, _, rfl, ?_⟩
              rw [isA]
              refine iteD (fun h1 => ?_) (fun h1 => stop fun q => h1 q.1)
              refine ⟨_, rfl, _, rfl, Z, _, rfl, .inl (SqL.of Zz), rfl, flat_ints Tk, _, rfl, ?_⟩
              show if (!inV (.int v) (Tk.map V.int)) = true then _ else _
              rw [inV_int]
              refine iteND (fun h2 => ?_) (fun h2 => stop fun q => q.2 h2)
              obtain ⟨y, hy, my⟩ := getA_in h1
              have ey := endW_of hy
              refine ⟨fun σ Hz => ∃ v T3, σ = [some (.ref ha), some (.ref wa), some (.ref R), o3, some (.ref O), o5, o6, some (.int b), some (.ref Z), some (.int v), none, none, none] ∧ msr (keysA ws) T3 < msr (keysA ws) Tk ∧ Same H Hz ∧ Hz S2 = some (.lst (bs.map V.int)) ∧ Hz R = some (.dK (kvK Sum.inl V.ref rs)) ∧
                  (∀ q ∈ rs, NT H Hz q.2 ((lotF ys hm q.1).map V.str)) ∧ Hz O = some (.lst ((addAll od (T3.map (endW ws))).map V.int)) ∧ Hz Z = some (.lst (T3.map V.int)) ∧ Once (keysA ws) T3 ∧ reachF (keysA ws) (endW ws) b [] = reachF (keysA ws) (endW ws) v T3,
                fun σ Hz ⟨v, T3, e1, lt, r⟩ => ⟨_, lt, v, T3, e1, rfl, r⟩, ?_⟩
              refine ⟨_, rfl, .inl ⟨rfl, _, SqL.of Zz⟩, _, rfl, Z, _, _, rfl, rfl, Zz, by rw [List.length_map]; omega, ?_⟩
              have nRZ : R ≠ Z := fun e => by rw [e, Zz] at Rz; cases Rz
              have sa : Same H (upd Hz Z (.lst (Tk.map V.int ++ [V.int v]))) := sameOut sz Z0
              have Ba : (upd Hz Z (.lst (Tk.map V.int ++ [V.int v]))) S2 = some (.lst (bs.map V.int)) := by rw [upd_ne nZS.symm]; exact Bz
              have Ra : (upd Hz Z (.lst (Tk.map V.int ++ [V.int v]))) R = some (.dK (kvK Sum.inl V.ref rs)) := by rw [upd_ne nRZ]; exact Rz
              have nta : ∀ q ∈ rs, NT H (upd Hz Z (.lst (Tk.map V.int ++ [V.int v]))) q.2 ((lotF ys hm q.1).map V.str) := fun q m => (ntz q m).kp (d := Z) (nO2 Hz _ _ Z _ Zz (ntz q m)) fun b ys n e => by rw [upd_ne n]; exact e
              have Oa : (upd Hz Z (.lst (Tk.map V.int ++ [V.int v]))) O = some (.lst ((addAll od (Tk.map (endW ws))).map V.int)) := by rw [upd_ne nZO.symm]; exact Oz
              have Za : (upd Hz Z (.lst (Tk.map V.int ++ [V.int v]))) Z = some (.lst ((Tk ++ [v]).map V.int)) := by rw [upd_same, List.map_append]; rfl
              generalize upd Hz Z (.lst (Tk.map V.int ++ [V.int v])) = Hb at sa Ba Ra nta Oa Za ⊢
              have dg : DGet Hb wa (.int v) (some (.ref y.1)) := by
                have := dgetI (f := wyV) (sa _ _ hW) v
                rw [hy] at this
                exact this
              refine ⟨_, rfl, _, rfl, wa, _, rfl, dg, y.1, _, 1, V.int y.2.2, rfl, rfl, sameT sa (hWt _ my), rfl, ?_⟩
              dsimp only [gName, List.set]
              have am : (Tk ++ [v]).map (endW ws) = Tk.map (endW ws) ++ [y.2.2] := by rw [List.map_append, ← ey]; rfl
              have r2 : reachF (keysA ws) (endW ws) b [] = reachF (keysA ws) (endW ws) y.2.2 (Tk ++ [v]) := by rw [rc, reachF_on h1 h2, ey]
              refine ⟨_, rfl, _, rfl, O, _, rfl, .inl (SqL.of Oa), rfl, flat_ints _, _, rfl, ?_⟩
              show if (!inV (.int y.2.2) ((addAll od (Tk.map (endW ws))).map V.int)) = true then _ else _
              rw [inV_int]
              refine iteND (fun h3 => ?_) (fun h3 => ?_)
              · refine ⟨_, rfl, .inl ⟨rfl, _, SqL.of Oa⟩, _, rfl, O, _, _, rfl, rfl, Oa, by rw [List.length_map]; omega, ?_⟩
                refine ⟨_, _, rfl, msr_lt h1 h2, sameOut sa O0, by rw [upd_ne nOS.symm]; exact Ba, by rw [upd_ne nRO]; exact Ra, fun q m => (nta q m).kp (d := O) (nO Hb _ _ _ Oa (nta q m)) fun b ys n e => by rw [upd_ne n]; exact e, ?_, by rw [upd_ne nZO]; exact Za, on.snoc h1 h2, r2⟩
                rw [upd_same, am, addAll_snoc, if_neg h3, List.map_append]
                rfl
              · refine ⟨_, _, rfl, msr_lt h1 h2, sa, Ba, Ra, nta, ?_, Za, on.snoc h1 h2, r2⟩
                rw [am, addAll_snoc, if_pos h3]
                exact Oa
            · rintro σ Ha ⟨o3, o5, o6, o7, o8, o9, rfl, sa, _, Ra, nta, Oa⟩
              rw [List.length_map, List.take_length] at Oa
              have ndO : (orderF ws bs (0 :: bs)).Nodup := orderF_nodup ws bs (List.nodup_cons.mpr ⟨fun m => ((beg.mem 0).mp m).1 rfl, beg.nd⟩)
              have lO : (orderF ws bs (0 :: bs)).length ≤ 1 + bs.length + ws.length := ord_len ndO fun y my => orderF_sub (fun z m => List.mem_append_left _ m) (fun k m => List.mem_append_right _ (List.mem_map.mpr ⟨k, m, rfl⟩)) y my
              have clo := orderF_closed (ws := ws) (bs := bs) w0
              have num : numF ys hm ws bs = if ∀ k ∈ keysA ws, k ∈ orderF ws bs (0 :: bs) then some ((orderF ws bs (0 :: bs)).map (lotF ys hm), arsF ws (orderF ws bs (0 :: bs))) else none := rfl
              have o1 : 0 < (orderF ws bs (0 :: bs)).length := by
                obtain ⟨t, ht⟩ := orderF_pre ws bs (0 :: bs)
                rw [ht]
                simp
              generalize orderF ws bs (0 :: bs) = od at Oa ndO lO clo num o1
              dsimp only [gName, List.set]
              clear O9 R9 nt9 B9 s9 O0 hR
              rw [eSeq, eIfS, eTest, eOp]
              refine lc_keys (d := wa) (kvs := kvK Sum.inl wyV ws) rfl (sa _ _ hW) (fun i xs Hx => ∃ n, xs = List.replicate n (V.int 1) ∧ (n = 0 ↔ ∀ q ∈ ws.take i, q.1 ∈ od)) (fun _ _ _ _ _ h => h) ⟨0, rfl, fun _ q m => absurd m List.not_mem_nil, fun _ => rfl⟩ ?_ (by rw [kv_len]; omega) ?_
              · rintro ob i kk v Hx xs Ny Nn hk fz bx ⟨n, rfl, hn⟩ lx yes no
                obtain ⟨⟨s, y⟩, hr, e⟩ : ∃ q, ws[i]? = some q ∧ (Sum.inl q.1, wyV q.2) = (kk, v) := by
                  unfold kvK at hk
                  rw [List.getElem?_map] at hk
                  obtain ⟨q, e1, e2⟩ := Option.map_eq_some_iff.mp hk
                  exact ⟨q, e1, e2⟩
                cases e
                have tk : ws.take (i + 1) = ws.take i ++ [(s, y)] := by rw [List.take_add_one, hr]; rfl
                have nOw : O ≠ wa := fun e => by
                  have := sa _ _ hW
                  rw [← e, Oa] at this
                  cases this
                have Ox := bx _ _ nOw Oa
                refine ⟨_, rfl, _, rfl, O, _, rfl, .inl (SqL.of Ox), rfl, flat_ints _, _, rfl, ?_⟩
                show if (!inV (.int s) (od.map V.int)) = true then _ else _
                rw [inV_int]
                refine iteND (fun h3 => ?_) (fun h3 => ?_)
                · refine yes _ _ fz (But.refl _ _) ⟨n + 1, by rw [List.replicate_succ'], fun z => absurd z (Nat.succ_ne_zero n), fun z => absurd (z (s, y) (by rw [tk]; exact List.mem_append_right _ List.mem_cons_self)) h3⟩
                · refine no _ fz (But.refl _ _) ⟨n, rfl, hn.trans ⟨fun z q m => ?_, fun z q m => z q (by rw [tk]; exact List.mem_append_left _ m)⟩⟩
                  rw [tk] at m
                  rcases List.mem_append.mp m with m | m
                  · exact z q m
                  · rw [List.mem_singleton.mp m]
                    exact h3
              · rintro L2 xs Hb sab hL2 L2b ⟨n, rfl, hn⟩ lx
                rw [kv_len, List.take_length] at hn
                rw [kv_len, List.length_replicate] at lx
                refine ⟨Nat.zero_le _, fun Z hZ => ?_⟩
                have sbc : Same Ha (upd Hb Z (.lst [])) := sab.trans (sameAdd hZ)
                have Lc := sameAdd (o := .lst []) hZ _ _ L2b
                have Zc : (upd Hb Z (.lst [])) Z = some (.lst []) := upd_same
                generalize upd Hb Z (.lst []) = Hc at sbc Lc Zc ⊢
                have sc := sa.trans sbc
                have Oc := sbc _ _ Oa
                have Rc := sbc _ _ Ra
                have ntc : ∀ q ∈ rs, NT H Hc q.2 ((lotF ys hm q.1).map V.str) := fun q m => (nta q m).same sbc
                clear hZ sab hL2 L2b Oa Ra nta sa sbc
                have er : List.replicate n (V.int 1) = (List.replicate n (1 : Int)).map V.int := by rw [List.map_replicate]
                rw [er] at Lc
                refine ⟨.list ((List.replicate n (1 : Int)).map PyData.int), .list [], .lst (SqL.of Lc) (dp_ints _), .lst (SqL.of Zc) .nil, shaped_ints _, rfl, _, rfl, ?_⟩
                rw [eqv_nil]
                refine iteNot (fun hz => ?_) (fun hz => ?_)
                · -- an arrow begins at what is not met
                  have n0 : ¬ n = 0 := fun e => by
                    rw [e] at hz
                    cases hz
                  refine k ys bs _ Hc perm srt beg sc (.inl ⟨?_, rfl⟩)
                  rw [num, if_neg]
                  intro z
                  exact n0 (hn.mpr fun q m => z _ (List.mem_map.mpr ⟨q, m, rfl⟩))
                · have n0 : n = 0 := by
                    cases n with
                    | zero => rfl
                    | succ n => cases hz
                  have all := hn.mp n0
                  have num2 : numF ys hm ws bs = some (od.map (lotF ys hm), arsF ws od) := by
                    rw [num, if_pos]
                    intro s m
                    obtain ⟨q, mq, rfl⟩ := List.mem_map.mp m
                    exact all q mq
                  clear num hz Lc Zc er hn
                  refine ⟨_, rfl, _, rfl, O, _, rfl, .inl (SqL.of Oc), _, rfl, fun r hr => ?_⟩
                  have scd : Same Hc (upd Hc r (.rng 0 ((od.map V.int).length : Int))) := sameAdd hr
                  have rd : (upd Hc r (.rng 0 ((od.map V.int).length : Int))) r = some (.rng 0 (od.length : Int)) := by rw [upd_same, List.length_map]
                  generalize upd Hc r (.rng 0 ((od.map V.int).length : Int)) = Hd0 at scd rd ⊢
                  refine ⟨O, r, od, rfl, SqL.of (scd _ _ Oc), rd, o1, by omega, fun p hp => ?_⟩
                  rw [pl_merge ndO]
                  have s2 := scd.trans (sameAdd (o := .dK (kvK Sum.inl V.int (pl od))) hp)
                  have pe : (upd Hd0 p (.dK (kvK Sum.inl V.int (pl od)))) p = some (.dK (kvK Sum.inl V.int (pl od))) := upd_same
                  have npw : p ≠ wa := fun e => by
                    have := scd _ _ (sc _ _ hW)
                    rw [← e, hp] at this
                    cases this
                  generalize upd Hd0 p (.dK (kvK Sum.inl V.int (pl od))) = He at s2 pe ⊢
                  have se := sc.trans s2
                  have Oe := s2 _ _ Oc
                  have Re := s2 _ _ Rc
                  have nte : ∀ q ∈ rs, NT H He q.2 ((lotF ys hm q.1).map V.str) := fun q m => (ntc q m).same s2
                  clear hp scd rd hr s2 Oc Rc ntc sc
                  dsimp only [gName, List.set]
                  refine ⟨_, rfl, O, rfl, ⟨_, SqL.of Oe⟩, fun D hD => lc_list (K := K) (a := O) (xs := od.map V.int) (fun i Hx => Same He Hx ∧ ∃ ls : List Addr, Hx D = some (.lst (ls.map V.ref)) ∧ Paired (fun (a : Addr) (s : Int) => NT H Hx a ((lotF ys hm s).map V.str)) ls (od.take i)) ⟨sameAdd hD, [], upd_same, .nil⟩ (fun i Hx _ h => SqL.of (h.1 _ _ Oe)) ?_ ?_⟩
                  · rintro i x Hx hx ⟨sx, ls, Dx, px⟩
                    have hi := (List.getElem?_eq_some_iff.mp hx).1
                    rw [List.length_map] at hi
                    obtain ⟨s, hs, rfl⟩ : ∃ s, od[i]? = some s ∧ x = V.int s := by
                      rw [List.getElem?_map] at hx
                      obtain ⟨n, e, q⟩ := Option.map_eq_some_iff.mp hx
                      exact ⟨n, e, q.symm⟩
                    have tk : od.take (i + 1) = od.take i ++ [s] := by rw [List.take_add_one, hs]; rfl
                    have lls : ls.length = i := by
                      rw [Paired.length px, List.length_take]
                      omega
                    refine ⟨rfl, _, rfl, R, rfl, .inl ⟨_, .of (sx _ _ Re)⟩, _, rfl, Nat.zero_le _, fun t ht => ?_⟩
                    have sxt : Same Hx (upd Hx t (.tup [])) := sameAdd ht
                    refine ⟨_, dgetI (f := V.ref) (sxt _ _ (sx _ _ Re)) s, ?_⟩
                    have t0 : H t = none := (se.trans sx).free ht
                    obtain ⟨la, eL, nL⟩ : ∃ la, ((getA rs s).map V.ref).getD (.ref t) = .ref la ∧ NT H (upd Hx t (.tup [])) la ((lotF ys hm s).map V.str) := by
                      cases e : getA rs s with
                      | some a => exact ⟨a, rfl, (nte _ (getA_mem e)).same (sx.trans sxt)⟩
                      | none =>
                        refine ⟨t, rfl, t0, ?_⟩
                        have : lotF ys hm s = [] := by
                          apply Classical.byContradiction
                          intro z
                          obtain ⟨v, q, _⟩ := getA_in ((mem3 s).mpr z)
                          rw [e] at q
                          cases q
                        rw [this]
                        exact upd_same
                    rw [eL]
                    have Dt := sxt _ _ Dx
                    generalize upd Hx t (.tup []) = Hy at sxt nL Dt ⊢
                    have kp : Kp D Hy (upd Hy D (.lst (ls.map V.ref ++ [V.ref la]))) := fun b ys n e => by rw [upd_ne n]; exact e
                    have nD : ∀ a xs, NT H Hy a xs → a ≠ D := fun a xs h e => by
                      rw [← e, h.2] at Dt
                      cases Dt
                    refine ⟨_, Dt, by rw [List.length_map]; omega, sameOut (sx.trans sxt) hD, ls ++ [la], by rw [upd_same, List.map_append]; rfl, ?_⟩
                    rw [tk]
                    exact paired_snoc (paired_mpL px fun a s h => (h.same sxt).kp (nD _ _ (h.same sxt)) kp) (nL.kp (nD _ _ nL) kp)
                  · rintro Hf ⟨sef, ls, Df, pf⟩
                    rw [List.length_map, List.take_length] at pf
                    refine ⟨D, _, rfl, .inl ⟨SqL.of Df, fun q hq => ?_⟩⟩
                    have sfg : Same Hf (upd Hf q (.tup (ls.map V.ref))) := sameAdd hq
                    have qg : NT H (upd Hf q (.tup (ls.map V.ref))) q (ls.map V.ref) := ⟨(se.trans sef).free hq, upd_same⟩
                    have pg := paired_mpL pf fun a s h => h.same sfg
                    generalize upd Hf q (.tup (ls.map V.ref)) = Hg at sfg qg pg ⊢
                    have sg := (se.trans sef).trans sfg
                    have Pg := sfg _ _ (sef _ _ pe)
                    clear pf Df hq hD
                    dsimp only [gName, List.set]
                    rw [eRet, eTup, eCons]
                    refine ⟨_, rfl, ?_⟩
                    dsimp only
                    rw [eCons, eCB, eCons, eCB, eCons]
                    have hWg := sg _ _ hW
                    refine lc_keys (d := wa) (kvs := kvK Sum.inl wyV ws) rfl hWg (fun i xs Hx => ∃ ts : List Addr, xs = ts.map V.ref ∧ Paired (fun (t : Addr) (q : Ar) => t ≠ wa ∧ NT H Hx t [.int q.1, .str q.2.1, .int q.2.2]) ts ((ws.take i).map fun q => (ixO od q.1, q.2.2.1, ixO od q.2.2.2)))
                      ?_ ⟨[], rfl, .nil⟩ ?_ (by rw [kv_len]; omega) ?_
                    · rintro i xs H5 H6 kp ⟨ts, rfl, pr⟩
                      exact ⟨ts, rfl, paired_mpL pr fun t q ⟨nt, h⟩ => ⟨nt, h.kp nt kp⟩⟩
                    · rintro ob i kk v Hx xs Ny Nn hk fz bx ⟨ts, rfl, pr⟩ lx yes no
                      obtain ⟨⟨s, y⟩, hr, e⟩ : ∃ q, ws[i]? = some q ∧ (Sum.inl q.1, wyV q.2) = (kk, v) := by
                        unfold kvK at hk
                        rw [List.getElem?_map] at hk
                        obtain ⟨q, e1, e2⟩ := Option.map_eq_some_iff.mp hk
                        exact ⟨q, e1, e2⟩
                      cases e
                      have tk : (ws.take (i + 1)).map (fun q => (ixO od q.1, q.2.2.1, ixO od q.2.2.2)) = (ws.take i).map (fun q => (ixO od q.1, q.2.2.1, ixO od q.2.2.2)) ++ [(ixO od s, y.2.1, ixO od y.2.2)] := by rw [List.take_add_one, hr, List.map_append]; rfl
                      have m := List.mem_of_getElem? hr
                      have gy : getA ws s = some y := mem_getA ndW m
                      have i1 : s ∈ od := all _ m
                      have i2 : y.2.2 ∈ od := by
                        have := clo s i1 (List.mem_map.mpr ⟨_, m, rfl⟩)
                        rw [endW_of gy] at this
                        exact this
                      have dw : ∀ Hx, Hx wa = some (.frz ob (.dK (kvK Sum.inl wyV ws))) → DGet Hx wa (.int s) (some (.ref y.1)) := fun Hx fz => by
                        have := dgetIR (f := wyV) (.inr ⟨ob, fz⟩) s
                        rw [gy] at this
                        exact this
                      have dp : ∀ x ∈ od, DGet Hx p (.int x) (some (.int (ixO od x))) := fun x mx => by
                        have := dgetI (f := V.int) (bx _ _ npw Pg) x
                        rw [pl_get mx] at this
                        exact this
                      have yt : SqT K Hx y.1 [.str y.2.1, .int y.2.2] := sq_but bx hWg (sameT sg (hWt _ m))
                      refine ⟨_, rfl, _, rfl, p, _, rfl, dp s i1, _, rfl, _, rfl, wa, _, rfl, dw _ fz, y.1, _, 0, V.str y.2.1, rfl, rfl, yt, rfl, _, rfl, _, rfl, _, rfl, wa, _, rfl, dw _ fz, y.1, _, 1, V.int y.2.2, rfl, rfl, yt, rfl, p, _, rfl, dp _ i2, by show 3 ≤ sizeLine; decide, fun t ht => ?_⟩
                      have ntw : t ≠ wa := fun z => by
                        rw [z, fz] at ht
                        cases ht
                      have b6 : But wa Hx (upd Hx t (.tup [V.int (ixO od s), V.str y.2.1, V.int (ixO od y.2.2)])) := (But.refl wa Hx).add ht
                      have t0 : H t = none := by
                        cases e : H t with
                        | none => rfl
                        | some o =>
                          have := bx _ _ ntw (sg _ _ e)
                          rw [ht] at this
                          cases this
                      refine yes _ _ (by rw [upd_ne ntw.symm]; exact fz) b6 ⟨ts ++ [t], by rw [List.map_append]; rfl, ?_⟩
                      rw [tk]
                      exact paired_snoc (paired_mpL pr fun t q ⟨nt, h⟩ => ⟨nt, h.1, b6 _ _ nt h.2⟩) ⟨ntw, t0, upd_same⟩
                    · rintro L3 xs Hh sgh hL3 L3h ⟨ts, rfl, pr⟩ lx
                      rw [kv_len, List.take_length] at pr
                      rw [kv_len] at lx
                      have sh := sg.trans sgh
                      refine ⟨L3, ts.map V.ref, Ar, _, arD, fun x b => ∃ t, x = V.ref t ∧ NT H Hh t [.int b.1, .str b.2.1, .int b.2.2], rfl, SqL.of L3h, fun x m => ?_, paired_map1 (fun t q h => ⟨t, rfl, h.2⟩) pr, paired_map1 (fun t q h => .tup (SqT.of h.2.2) (.cons (.int _) (.cons (.str _) (.cons (.int _) .nil)))) pr, fun b b' => by simp [arD, PySem.W.alike, PySem.W.alikeAll], fun b => ⟨_, _, rfl⟩, fun b _ => by simp [arD, PyData.depth, PyData.depthAll], fun zs p2 pz prz hp2 => ?_⟩
                      · obtain ⟨t, _, rfl⟩ := List.mem_map.mp m
                        exact ⟨t, rfl⟩
                      · refine ⟨p2, _, rfl, .inl ⟨SqL.of upd_same, fun q2 hq2 => ⟨by show 2 ≤ sizeLine; decide, fun u hu2 => ?_⟩⟩⟩
                        have si : Same Hh (upd (upd (upd Hh p2 (.lst zs)) q2 (.tup zs)) u (.tup [V.ref q, V.ref q2])) := ((sameAdd hp2).trans (sameAdd hq2)).trans (sameAdd hu2)
                        have Q2 : (upd (upd (upd Hh p2 (.lst zs)) q2 (.tup zs)) u (.tup [V.ref q, V.ref q2])) q2 = some (.tup zs) := sameAdd hu2 _ _ upd_same
                        have U2 : (upd (upd (upd Hh p2 (.lst zs)) q2 (.tup zs)) u (.tup [V.ref q, V.ref q2])) u = some (.tup [V.ref q, V.ref q2]) := upd_same
                        have q0 : H q2 = none := sh.free ((sameAdd hp2).free hq2)
                        have u0 : H u = none := sh.free (((sameAdd hp2).trans (sameAdd hq2)).free hu2)
                        generalize upd (upd (upd Hh p2 (.lst zs)) q2 (.tup zs)) u (.tup [V.ref q, V.ref q2]) = Hi at si Q2 U2 ⊢
                        refine k ys bs _ Hi perm srt beg (sh.trans si) (.inr ⟨_, num2, ?_⟩)
                        refine .tup (NT.nw ⟨u0, U2⟩) (.cons (.tup (NT.nw (qg.same (sgh.trans si))) ?_) (.cons (.tup (NT.nw ⟨q0, Q2⟩) ?_) .nil))
                        · exact da_lots (paired_mpL pg fun a s h => (h.same (sgh.trans si)).nw)
                        · exact da_ars (paired_mpL prz fun z b ⟨t, e, h⟩ => ⟨t, e, (h.same si).nw⟩)
end
end L2.Hx

/-! What is numbered depends on lots and arrows alone, in whatever order they stand. -/
namespace L2.Hx
open PySem PySem.Spec PyProof.Rows
theorem dataLe_anti {β : Type} {enc : β → PyData} {p q : β} (h1 : PySem.W.dataLe false enc p q = true) (h2 : PySem.W.dataLe false enc q p = true) : PySem.W.keyToks (enc p) = PySem.W.keyToks (enc q) := by
  have a1 : (!(PyProof.Rows.listOrd PyProof.Rows.itemOrd).blt (PySem.W.keyToks (enc q)) (PySem.W.keyToks (enc p))) = true := h1
  have a2 : (!(PyProof.Rows.listOrd PyProof.Rows.itemOrd).blt (PySem.W.keyToks (enc p)) (PySem.W.keyToks (enc q))) = true := h2
  rw [Bool.not_eq_true'] at a1 a2
  exact (PyProof.Rows.listOrd PyProof.Rows.itemOrd).total _ _ a2 a1
theorem srt_uniq {β : Type} {enc : β → PyData} {l m : List β} (hi : ∀ a ∈ l, ∀ b ∈ l, PySem.W.keyToks (enc a) = PySem.W.keyToks (enc b) → a = b) (h1 : l.Pairwise fun p q => PySem.W.dataLe false enc p q = true) (h2 : m.Pairwise fun p q => PySem.W.dataLe false enc p q = true) (p : l.Perm m) : l = m :=
  List.Perm.eq_of_pairwise (le := fun p q => PySem.W.dataLe false enc p q = true) (fun a b ma mb q1 q2 => hi a ma b (p.mem_iff.mpr mb) (dataLe_anti q1 q2)) h1 h2 p
theorem str_ext {a b : Str} (h : a.cps.toList = b.cps.toList) : a = b := by
  obtain ⟨x⟩ := a
  obtain ⟨y⟩ := b
  have e2 : x = y := Array.toList_inj.mp h
  rw [e2]
theorem arD_inj {a b : Ar} (h : PySem.W.keyToks (arD a) = PySem.W.keyToks (arD b)) : a = b := by
  obtain ⟨a1, a2, a3⟩ := a
  obtain ⟨b1, b2, b3⟩ := b
  simp [arD, PySem.W.keyToks, PySem.W.keyToksAll] at h
  obtain ⟨h1, h2, h3⟩ := h
  have h4 : a2 = b2 := str_ext (by first | exact h2 | exact congrArg Array.toList h2 | rw [h2])
  rw [h1, h3, h4]
theorem arsF_perm {ws ws' : Ws} {o : List Int} (h : (ws.map fun q => (q.1, q.2.2)).Perm (ws'.map fun q => (q.1, q.2.2))) : arsF ws o = arsF ws' o := by
  unfold arsF
  have e : ∀ ws : Ws, (ws.map fun q => (ixO o q.1, q.2.2.1, ixO o q.2.2.2)) = (ws.map fun q => (q.1, q.2.2)).map fun q : Ar => (ixO o q.1, q.2.1, ixO o q.2.2) := fun ws => by
    rw [List.map_map]
    rfl
  rw [e ws, e ws']
  have p := h.map fun q : Ar => (ixO o q.1, q.2.1, ixO o q.2.2)
  exact srt_uniq (fun a _ b _ q => arD_inj q) (dataLe_srt arD _) (dataLe_srt arD _) (((List.mergeSort_perm _ _).trans p).trans (List.mergeSort_perm _ _).symm)
theorem reachF_congr {ks ks' : List Int} {M M' : Int → Int} (hk : ∀ x, x ∈ ks ↔ x ∈ ks') (hM : ∀ x ∈ ks, M x = M' x) (a : Int) (S : List Int) : reachF ks M a S = reachF ks' M' a S := by
  by_cases h2 : a ∈ ks ∧ ¬ a ∈ S
  · rw [reachF_on h2.1 h2.2, reachF_on ((hk a).mp h2.1) h2.2, ← hM a h2.1]
    exact reachF_congr hk hM (M a) (S ++ [a])
  · rw [reachF_no h2, reachF_no (fun z => h2 ⟨(hk a).mpr z.1, z.2⟩)]
termination_by msr ks S
decreasing_by exact msr_lt h2.1 h2.2
theorem orderF_congr {ws ws' : Ws} (hk : ∀ x, x ∈ keysA ws ↔ x ∈ keysA ws') (hM : ∀ x ∈ keysA ws, endW ws x = endW ws' x) : ∀ (bs o : List Int), orderF ws bs o = orderF ws' bs o
  | [], _ => rfl
  | b :: bs, o => by
    show orderF ws bs (alongF ws o b) = orderF ws' bs (alongF ws' o b)
    have e : alongF ws o b = alongF ws' o b := by
      unfold alongF
      rw [reachF_congr hk hM]
      congr 1
      refine List.map_congr_left fun x m => ?_
      have o1 := reachF_once (ks := keysA ws') (M := endW ws') b [] Once.nil
      exact hM x ((hk x).mpr (o1.2 x m))
    rw [e]
    exact orderF_congr hk hM bs _
theorem keys_tail (ws : Ws) : keysA ws = (ws.map fun q => (q.1, q.2.2)).map Prod.fst := by
  rw [List.map_map]
  rfl
theorem ends_perm {ws ws' : Ws} (nd : (keysA ws).Nodup) (h : (ws.map fun q => (q.1, q.2.2)).Perm (ws'.map fun q => (q.1, q.2.2))) : (∀ x, x ∈ keysA ws ↔ x ∈ keysA ws') ∧ (keysA ws').Nodup ∧ ∀ x ∈ keysA ws, endW ws x = endW ws' x := by
  have pk : (keysA ws).Perm (keysA ws') := by
    rw [keys_tail, keys_tail]
    exact h.map Prod.fst
  have nd' := pk.nodup_iff.mp nd
  refine ⟨fun x => pk.mem_iff, nd', fun x m => ?_⟩
  obtain ⟨y, e, my⟩ := getA_in m
  have mt := h.mem_iff.mp (List.mem_map.mpr ⟨_, my, rfl⟩ : ((x, y.2) : Ar) ∈ ws.map fun q => (q.1, q.2.2))
  obtain ⟨⟨x', y'⟩, mz, ez⟩ := List.mem_map.mp mt
  obtain ⟨rfl, e2⟩ := Prod.mk.inj ez
  rw [endW_of e, endW_of (mem_getA nd' mz)]
  rw [show y'.2 = y.2 from e2]
/-- numbered, the lots told by a function -/
def numL (lot : Int → List Str) (ws : Ws) (bs : List Int) : Option Cs :=
  if ∀ k ∈ keysA ws, k ∈ orderF ws bs (0 :: bs) then some ((orderF ws bs (0 :: bs)).map lot, arsF ws (orderF ws bs (0 :: bs))) else none
theorem numF_L (ys : List Str) (hm : Hm) (ws : Ws) (bs : List Int) : numF ys hm ws bs = numL (lotF ys hm) ws bs := rfl
theorem numL_perm {lot : Int → List Str} {ws ws' : Ws} {bs : List Int} (nd : (keysA ws).Nodup) (h : (ws.map fun q => (q.1, q.2.2)).Perm (ws'.map fun q => (q.1, q.2.2))) : numL lot ws bs = numL lot ws' bs := by
  obtain ⟨h1, h2, h3⟩ := ends_perm nd h
  have eo := orderF_congr h1 h3 bs (0 :: bs)
  unfold numL
  rw [eo, arsF_perm h]
  by_cases c : ∀ k ∈ keysA ws, k ∈ orderF ws' bs (0 :: bs)
  · rw [if_pos c, if_pos fun k m => c k ((h1 k).mpr m)]
  · rw [if_neg c, if_neg fun z => c fun k m => z k ((h1 k).mp m)]
theorem numL_lots {lot lot' : Int → List Str} {ws : Ws} {bs : List Int} (h : ∀ s ∈ orderF ws bs (0 :: bs), lot s = lot' s) : numL lot ws bs = numL lot' ws bs := by
  unfold numL
  rw [List.map_congr_left h]
/-- the first lots -/
structure BegL (lot : Int → List Str) (bs : List Int) : Prop where
  nd : bs.Nodup
  mem : ∀ s, s ∈ bs ↔ s ≠ 0 ∧ lot s ≠ []
  srt : (bs.map fun s => (lot s, s)).Pairwise fun p q => PySem.W.dataLe false encB p q = true
theorem Begins.L {ys : List Str} {hm : Hm} {bs : List Int} (h : Begins ys hm bs) : BegL (lotF ys hm) bs := ⟨h.nd, h.mem, h.srt⟩
theorem encB_last {p q : List Str × Int} (h : PySem.W.keyToks (encB p) = PySem.W.keyToks (encB q)) : p.2 = q.2 := by
  obtain ⟨a, s⟩ := p
  obtain ⟨b, t⟩ := q
  simp only [encB, PySem.W.keyToks, PySem.W.keyToksAll] at h
  have h2 := List.cons.inj h
  have h3 := List.append_inj' h2.2 (by simp)
  have := h3.2
  simp at this
  exact this
theorem BegL.uniq {lot : Int → List Str} {bs cs : List Int} (h1 : BegL lot bs) (h2 : BegL lot cs) : bs = cs := by
  have p : bs.Perm cs := (List.perm_ext_iff_of_nodup h1.nd h2.nd).mpr fun s => (h1.mem s).trans (h2.mem s).symm
  have e := srt_uniq (enc := encB) (fun a ma b mb q => by
    obtain ⟨s, _, rfl⟩ := List.mem_map.mp ma
    obtain ⟨t, _, rfl⟩ := List.mem_map.mp mb
    have : s = t := encB_last q
    rw [this]) h1.srt h2.srt (p.map fun s => (lot s, s))
  have e2 := congrArg (List.map Prod.snd) e
  rw [List.map_map, List.map_map] at e2
  have e3 : ∀ l : List Int, l.map (Prod.snd ∘ fun s => (lot s, s)) = l := fun l => List.map_id'' (fun _ => rfl) l
  rw [e3, e3] at e2
  exact e2
theorem begL_of {lot : Int → List Str} {ks : List Int} (nd : ks.Nodup) (mem : ∀ s, s ∈ ks ↔ s ≠ 0 ∧ lot s ≠ []) : BegL lot (((ks.map fun s => (lot s, s)).mergeSort (PySem.W.dataLe false encB)).map Prod.snd) := by
  have pm := List.mergeSort_perm (ks.map fun s => (lot s, s)) (PySem.W.dataLe false encB)
  have p2 := pm.map Prod.snd
  have e : (ks.map fun s => (lot s, s)).map Prod.snd = ks := by
    rw [List.map_map]
    exact List.map_id'' (fun _ => rfl) ks
  rw [e] at p2
  refine ⟨p2.nodup_iff.mpr nd, fun s => (p2.mem_iff).trans (mem s), ?_⟩
  rw [List.map_map]
  have e2 : ((ks.map fun s => (lot s, s)).mergeSort (PySem.W.dataLe false encB)).map ((fun s => (lot s, s)) ∘ Prod.snd) = (ks.map fun s => (lot s, s)).mergeSort (PySem.W.dataLe false encB) := by
    conv => rhs; rw [← List.map_id ((ks.map fun s => (lot s, s)).mergeSort (PySem.W.dataLe false encB))]
    refine List.map_congr_left fun q m => ?_
    obtain ⟨s, _, rfl⟩ := List.mem_map.mp (pm.mem_iff.mp m)
    rfl
  rw [e2]
  exact dataLe_srt encB _
/-- what is ascending -/
def leZ (a b : Str) : Prop := a.cps.toList ≤ b.cps.toList
theorem rising_pw : ∀ (l : List Str) (p : Str), risingS p l = true → (p :: l).Pairwise leZ
  | [], p, _ => List.pairwise_singleton _ _
  | x :: r, p, h => by
    have h1 : (!ltCps x.cps.toList p.cps.toList && risingS x r) = true := h
    obtain ⟨a, b⟩ := Bool.and_eq_true_iff.mp h1
    have px : leZ p x := by
      rw [ltCps_eq] at a
      have a2 : ¬ x.cps.toList < p.cps.toList := by simpa using a
      exact List.not_lt.mp a2
    have ih := rising_pw r x b
    refine List.pairwise_cons.mpr ⟨fun y hy => ?_, ih⟩
    rcases List.mem_cons.mp hy with rfl | hy
    · exact px
    · exact List.le_trans px ((List.pairwise_cons.mp ih).1 y hy)
theorem sorted_pw : ∀ (l : List Str), sortedS l = true → l.Pairwise leZ
  | [], _ => List.Pairwise.nil
  | x :: r, h => rising_pw r x h
theorem leZ_anti {a b : Str} (h1 : leZ a b) (h2 : leZ b a) : a = b := str_ext (List.le_antisymm h1 h2)
theorem up_uniq {xs ys : List Str} (h1 : xs.Pairwise leZ) (h2 : ys.Pairwise leZ) (p : xs.Perm ys) : xs = ys :=
  List.Perm.eq_of_pairwise (le := leZ) (fun a b _ _ p q => leZ_anti p q) h1 h2 p
theorem lotF_up {ys : List Str} (h : ys.Pairwise leZ) (hm : Hm) (s : Int) : (lotF ys hm s).Pairwise leZ := h.sublist List.filter_sublist
def Up0 (ys : List Str) : Prop := (ys.filter fun n => decide (n ≠ ("nil" : Str))).Pairwise leZ
theorem up_of {ys : List Str} (h : sortedS ys = true) : Up0 ys := (sorted_pw ys h).sublist List.filter_sublist
theorem lotF_0 (ys : List Str) (hm : Hm) (s : Int) : lotF ys hm s = (ys.filter fun n => decide (n ≠ ("nil" : Str))).filter fun n => decide (getA hm n = some s) := by
  unfold lotF
  rw [List.filter_filter]
  refine List.filter_congr fun n _ => ?_
  rw [Bool.and_comm]
theorem lotF_up0 {ys : List Str} (h : Up0 ys) (hm : Hm) (s : Int) : (lotF ys hm s).Pairwise leZ := by
  rw [lotF_0]
  exact List.Pairwise.sublist List.filter_sublist h
/-- a lot read again out of where each of its names stands is the same -/
theorem lotF_back {ys : List Str} {hm : Hm} {s : Int} {l : List Str} (hy : Up0 ys) (nd : ys.Nodup) (hl : l.Pairwise leZ) (nl : l.Nodup) (h : ∀ n, (n ∈ ys ∧ n ≠ "nil" ∧ getA hm n = some s) ↔ n ∈ l) : lotF ys hm s = l :=
  up_uniq (lotF_up0 hy hm s) hl ((List.perm_ext_iff_of_nodup (nd.sublist List.filter_sublist) nl).mpr fun n => mem_lotF.trans (h n))
end L2.Hx

/-! A drawn case. -/
namespace L2.Hx
open PySem PySem.Spec PyProof.Rows
structure HomeOk (ns : List Str) (hm : Hm) : Prop where
  keys : (keysA hm).Perm ("nil" :: ns)
  nil : getA hm "nil" = some 0
  pos : ∀ q ∈ hm, 0 ≤ q.2
structure WaysK (m : Nat) (ws : Ws) : Prop where
  nd : (keysA ws).Nodup
  pos : ∀ q ∈ ws, 0 < q.1
  end0 : ∀ q ∈ ws, 0 ≤ q.2.2.2
  kind : ∀ q ∈ ws, q.2.2.1 = "short" ∨ (q.2.2.1 = "long" ∧ q.2.2.2 ≠ q.1)
  len : ws.length ≤ m
abbrev WaysOk (ws : Ws) : Prop := WaysK 40 ws
theorem WaysK.up {ws : Ws} (h : WaysK 39 ws) : WaysOk ws := ⟨h.nd, h.pos, h.end0, h.kind, Nat.le_succ_of_le h.len⟩
/-- all that is new behind a call is held, beside what was there at the entry -/
theorem Wd.back {p l : Addr} {G H Gx Hx Hy : Hp} (W : Wd p l G H) (Wx : Wd p l Gx Hx) (kx : ∀ b o, b ≠ p → b ≠ l → H b = some o → Hx b = some o) (sy : Same Hx Hy) : ∃ G', Ext p l G H G' Hy ∧ Same (Nw Hx Hy) G' := by
  obtain ⟨o1, hp⟩ : ∃ o, Hx p = some o := by
    obtain ⟨m, t, _, _, h⟩ := Wx.dk
    exact ⟨_, h⟩
  obtain ⟨o2, hl⟩ : ∃ o, Hx l = some o := by
    obtain ⟨m, _, h⟩ := Wx.ls
    exact ⟨_, h⟩
  have fr : ∀ b, Hx b = none → H b = none := fun b e => by
    cases q : H b with
    | none => rfl
    | some o =>
      have := kx b o (fun z => by rw [z, hp] at e; cases e) (fun z => by rw [z, hl] at e; cases e) q
      rw [e] at this
      cases this
  refine ⟨fun b => if (Hx b).isNone = true then Hy b else G b, ⟨⟨fun b o q => ?_, ?_, ?_, ?_, ?_⟩, fun b o q => ?_, fun b o n1 n2 q => sy _ _ (kx b o n1 n2 q), fun b o q g => ?_⟩, fun b o q => ?_⟩
  · split at q
    · exact q
    · by_cases b1 : b = p
      · rw [b1, W.gp] at q
        cases q
      · by_cases b2 : b = l
        · rw [b2, W.gl] at q
          cases q
        · exact sy _ _ (kx b o b1 b2 (W.same _ _ q))
  · show (if (Hx p).isNone = true then Hy p else G p) = none
    rw [hp]
    exact W.gp
  · show (if (Hx l).isNone = true then Hy l else G l) = none
    rw [hl]
    exact W.gl
  · obtain ⟨m, t, a, b, h⟩ := Wx.dk
    exact ⟨m, t, a, b, sy _ _ h⟩
  · obtain ⟨m, a, h⟩ := Wx.ls
    exact ⟨m, a, sy _ _ h⟩
  · show (if (Hx b).isNone = true then Hy b else G b) = some o
    split
    · rename_i e
      have := fr b (by simpa using e)
      rw [W.same _ _ q] at this
      cases this
    · exact q
  · show (if (Hx b).isNone = true then Hy b else G b) = none
    split
    · rename_i e
      have := fr b (by simpa using e)
      rw [q] at this
      cases this
    · exact g
  · show (if (Hx b).isNone = true then Hy b else G b) = some o
    unfold Nw at q
    split at q
    · rename_i e
      rw [if_pos e]
      exact q
    · cases q
theorem numF_alen {ys : List Str} {hm : Hm} {ws : Ws} {bs : List Int} {c : Cs} (h : numF ys hm ws bs = some c) : c.2.length = ws.length := by
  unfold numF at h
  split at h
  case isFalse => cases h
  rw [← Option.some.inj h]
  show (arsF ws _).length = _
  unfold arsF
  rw [(List.mergeSort_perm _ _).length_eq, List.length_map]
def CaseF (ns : List Str) (c : Cs) : Prop := ∃ ys hm ws bs, HomeOk ns hm ∧ WaysOk ws ∧ ys.Perm (keysA hm) ∧ Up0 ys ∧ Begins ys hm bs ∧ numF ys hm ws bs = some c
def spAny (K : PySem.W.Frag) : Sp := fun vs H Q _ => ∃ (p l : Addr) (G : Hp) (na : Addr) (ns : List Str) (nl : Int), vs = [.ref p, .ref na, .int nl] ∧ Wd p l G H ∧ SqT K G na (ns.map V.str) ∧ ns.Nodup ∧ ¬ ("nil" : Str) ∈ ns ∧ ns.length ≤ 8 ∧ (∀ n ∈ ns, Shp (.str n)) ∧ 0 ≤ nl ∧ nl ≤ 10 ∧
  ∀ c v G' H', CaseF ns c → c.2.length ≤ 39 → Ext p l G H G' H' → Da K G' v (caseD c) → Q v H'
section
variable {P : Program} {w : World} {K : PySem.W.Frag} {mg : Str → Option Value} {base : Heap}
theorem D_l_any_case (T : Txt K mg) : Df P w K mg base 3 "_law_any_case" ["deck", "names", "nameless"] (spAny K) := by
  have D_l_draw := D_draw (P := P) (w := w) (base := base) T
  have D_l_pick := D_pick (P := P) (w := w) (base := base) T
  have D_l_mixed := D_l_mixed (P := P) (w := w) (base := base) T
  have D_l_numbered := D_l_numbered (P := P) (w := w) (base := base) T
  obtain ⟨f, fd, S⟩ := T.d_l_any_case
  refine Df.mk' (k := 2) S sc_l_any_case (fun vs H Q E h => ?_) (fun cdv A outer s H vs Q E hgd hr h => ?_)
  · obtain ⟨p, l, G, na, ns, nl, rfl, _⟩ := h
    rfl
  · obtain ⟨p, l, G, na, ns, nl, rfl, W, nT, nd, nn, ln, shn, nl0, nl1, k⟩ := h
    have hu := hu_of hr
    have big : (2000 : Nat) ≤ sizeLine := by decide
    refine ⟨_, (pss_cons (ps_asg (pe_tup (pa_cons (pe_disp (pps_cons pe_str pe_int pps_nil) (by rfl) (by rfl) (fun z => by cases z) (by decide)) (pa_cons pe_int pa_nil))) (pg_tup rfl (pgs_cons (pg_name (i := 3) sc_l_any_case.nd rfl (.inr rfl)) (pgs_cons (pg_name (i := 4) sc_l_any_case.nd rfl (.inl rfl)) pgs_nil))))
      (pss_cons (ps_for PassesOwn.never rfl (pi_list (pe_d D_l_mixed hgd hr (pa_cons (pv 0) (pa_cons (pe_callTy call_list_of (by rfl) T.b_list (by decide +kernel) (pa_cons (pv 1) pa_nil)) pa_nil)))) (pg_name (i := 5) sc_l_any_case.nd rfl (.inl rfl))
      (pss_cons (ps_dput hu (pv 3) (pv 5) (pe_ifExp (pt_cmpR op_eq (pe_d D_l_draw hgd hr (pa_cons (pv 0) (pa_cons pe_int pa_nil))) pe_int (nomark _)) (pe_d D_l_draw hgd hr (pa_cons (pv 0) (pa_cons (pe_op op_add (pv 4) pe_int) pa_nil))) (pe_op op_add (pv 4) pe_int)) rfl)
      (pss_one (ps_set (i := 4) sc_l_any_case.nd rfl (.inl rfl) (pe_callB (call_max2 rfl) (by rfl) T.b_max (by decide +kernel) (pa_cons (pv 4) (pa_cons (pe_dget hu (pv 3) (pv 5) (fun _ _ => rfl)) pa_nil)))))))
      (pss_cons (ps_asg (pe_tup (pa_cons (pe_listRg rfl (by rfl) T.b_list (prg_2 (by rfl) T.b_range pe_int (pe_op op_add (pe_op op_add (pv 4) pe_int) (pv 2)))) (pa_cons pe_dnewK pa_nil))) (pg_tup rfl (pgs_cons (pg_name (i := 6) sc_l_any_case.nd rfl (.inl rfl)) (pgs_cons (pg_name (i := 7) sc_l_any_case.nd rfl (.inr rfl)) pgs_nil))))
      (pss_cons (ps_for PassesOwn.never rfl (pi_list (pv 6)) (pg_name (i := 8) sc_l_any_case.nd rfl (.inl rfl))
      (pss_cons (ps_set (i := 9) sc_l_any_case.nd rfl (.inl rfl) (pe_d D_l_pick hgd hr (pa_cons (pv 0) (pa_cons (pe_op op_cat (pe_lst (pa_cons pe_int pa_nil)) (pv 6)) pa_nil))))
      (pss_one (ps_if (pt_cmpR op_gt (pe_d D_l_draw hgd hr (pa_cons (pv 0) (pa_cons pe_int pa_nil))) pe_int (nomark _)) (pss_cons (ps_set (i := 10) sc_l_any_case.nd rfl (.inl rfl) (pe_ifExp (pt_cmpR op_eq (pv 9) (pv 8) (nomark _)) pe_str (pe_d D_l_pick hgd hr (pa_cons (pv 0) (pa_cons (pe_lst (pa_cons pe_str (pa_cons pe_str pa_nil))) pa_nil)))))
      (pss_one (ps_dput hu (pv 7) (pv 8) (pe_tup (pa_cons (pv 10) (pa_cons (pv 9) pa_nil))) rfl))) pss_nil))))
      (pss_cons (ps_for PassesOwn.never rfl (pi_range1 rfl T.b_range (pa_cons (pe_op op_add (pv 2) pe_int) pa_nil)) (pg_name (i := 11) sc_l_any_case.nd rfl (.inl rfl))
      (pss_cons (ps_set (i := 12) sc_l_any_case.nd rfl (.inl rfl) (pe_d D_l_numbered hgd hr (pa_cons (pv 3) (pa_cons (pv 7) pa_nil))))
      (pss_cons (ps_if (pt_cmpR op_notN (pv 12) pe_non (nomark _)) (pss_one (ps_ret (pv 12))) pss_nil)
      (pss_cons (ps_set (i := 13) sc_l_any_case.nd rfl (.inr rfl) (pe_lock (pe_lc (own := [("name", 5)]) (g := gName 5) (tt := tYes) rfl sc_l_any_case.nd (pi_keys (pv 3)) (blkOk_by (own := [("name", 5)]) (N := ["deck", "names", "nameless", "home", "top", "name", "spots", "ways", "spot", "end", "kind", "turn", "case", "met", "begin"]) (sc := defScope s_l_any_case) (by decide +kernel)) (fun _ _ _ _ _ => pg_name (i := 5) sc_l_any_case.nd rfl (.inl rfl)) (fun _ _ _ _ _ => pts_nil) (fun _ _ _ _ _ => (pe_dget hu (pv 3) (pv 5) (fun _ _ => rfl))))))
      (pss_cons (ps_for PassesOwn.never rfl (pi_list (pe_op op_rep (pe_callTy (call_listD rfl) (by rfl) T.b_list (by decide +kernel) (pa_cons (pv 7) pa_nil)) (pe_op op_add (pv 2) pe_int))) (pg_name (i := 14) sc_l_any_case.nd rfl (.inl rfl))
      (pss_one (ps_if (PW.pt (pw_and (pt_cmpR op_in_seq (pv 14) (pv 13) (by rfl)) (pw_and1 (pt_cmp (pc_din hu (pv 14) (pv 7)))))) (pss_one (ps_expr (pe_bm PySem.F.plainAttrs_list PySem.F.slot_list_append PySem.F.type_list_append mt_append (pv 13) (pa_cons (pe_ix ix_tup (pe_dget hu (pv 7) (pv 14) (fun _ _ => rfl)) pe_int (fun _ _ => rfl)) pa_nil)))) pss_nil)))
      (pss_one (ps_set (i := 7) sc_l_any_case.nd rfl (.inr rfl) (pe_callTy (call_dictP rfl) (by rfl) T.b_dict (by decide +kernel) (pa_cons (pe_lock (pe_lc (X := (cxOf CX0 P w K mg base ["deck", "names", "nameless", "home", "top", "name", "spots", "ways", "spot", "end", "kind", "turn", "case", "met", "begin"] "_law_any_case" (defScope s_l_any_case) f cdv A outer s H E).nox) (own := [("begin", 14)]) (g := gName 14) (tt := tTest (tOp (rIn K false) (tVar 14) (tVar 13))) (te := tTup (tCons (tVar 14) (tCons (tDGet (tVar 7) (tVar 14)) tNil))) rfl sc_l_any_case.nd (pi_keys (pv 7)) (blkOk_by (own := [("begin", 14)]) (N := ["deck", "names", "nameless", "home", "top", "name", "spots", "ways", "spot", "end", "kind", "turn", "case", "met", "begin"]) (sc := defScope s_l_any_case) (by decide +kernel)) (fun _ _ _ _ _ => pg_name (i := 14) sc_l_any_case.nd rfl (.inl rfl)) (fun _ _ _ _ _ => (pts_one (pt_cmpR op_in_seq (pv 14) (pv 13) (by rfl)))) (fun _ _ _ _ _ => (pe_tup (pa_cons (pv 14) (pa_cons (pe_dget hu (pv 7) (pv 14) (fun _ _ => rfl)) pa_nil)))))) pa_nil)))))))))
      (pss_one (ps_ret (pe_d D_l_numbered hgd hr (pa_cons (pv 3) (pa_cons pe_dnewK pa_nil)))))))))), ?_⟩
    refine fun hd hhd => ⟨upd_same, [(.inr "nil", .int 0)], rfl, by decide, ?_⟩
    have em : mergeK [] [((Sum.inr "nil" : Key), V.int 0)] = kvK Sum.inr V.int [(("nil" : Str), (0 : Int))] := rfl
    rw [em]
    have hp := W.np hhd
    have hl := W.nl hhd
    have gh : G hd = none := W.same.free hhd
    have hh0 := hhd
    have e1 := (W.tmp (o := .dK []) hhd)
    have W1 : Wd p l G (upd (upd H hd (.dK [])) hd (.dK (kvK Sum.inr V.int [(("nil" : Str), (0 : Int))]))) := e1.w.own hp hl gh
    have h1 : (upd (upd H hd (.dK [])) hd (.dK (kvK Sum.inr V.int [(("nil" : Str), (0 : Int))]))) hd = some (.dK (kvK Sum.inr V.int [(("nil" : Str), (0 : Int))])) := upd_same
    have k1 : ∀ b o, b ≠ p → b ≠ l → H b = some o → (upd (upd H hd (.dK [])) hd (.dK (kvK Sum.inr V.int [(("nil" : Str), (0 : Int))]))) b = some o := fun b o _ _ q => by
      rw [upd_ne (ne_of_none q hhd), upd_ne (ne_of_none q hhd)]
      exact q
    generalize upd (upd H hd (.dK [])) hd (.dK (kvK Sum.inr V.int [(("nil" : Str), (0 : Int))])) = H1 at W1 h1 k1 ⊢
    refine ⟨by show 2 ≤ sizeLine; decide, fun t ht => ⟨t, _, rfl, SqT.of upd_same, rfl, _, _, rfl, _, _, rfl, rfl, ?_⟩⟩
    have W2 := (W1.tmp (o := .tup [V.ref hd, V.int 0]) ht).w
    have h2 := sameAdd (o := .tup [V.ref hd, V.int 0]) ht _ _ h1
    have k2 : ∀ b o, b ≠ p → b ≠ l → H b = some o → (upd H1 t (.tup [V.ref hd, V.int 0])) b = some o := fun b o n1 n2 q => sameAdd ht _ _ (k1 b o n1 n2 q)
    generalize upd H1 t (.tup [V.ref hd, V.int 0]) = H2 at W2 h2 k2 ⊢
    clear W1 h1 k1 ht e1 hhd
    dsimp only [gName, List.set]
    -- for name in _law_mixed(deck, list(names))
    refine ⟨_, rfl, _, rfl, na, _, rfl, .inr (sameT W2.same nT), fun L hL => ?_⟩
    have e3 := W2.tmp (o := .lst (ns.map V.str)) hL
    have h3 := e3.keep _ _ hp hl h2
    have L3 : (upd H2 L (.lst (ns.map V.str))) L = some (.lst (ns.map V.str)) := upd_same
    have W3 := e3.w
    have k3 : ∀ b o, b ≠ p → b ≠ l → H b = some o → (upd H2 L (.lst (ns.map V.str))) b = some o := fun b o n1 n2 q => e3.keep b o n1 n2 (k2 b o n1 n2 q)
    generalize upd H2 L (.lst (ns.map V.str)) = H3 at W3 h3 L3 k3 ⊢
    clear W2 h2 k2 e3 hL
    have ez : (ns.map fun n => (V.str n, PyData.str n)).map Prod.fst = ns.map V.str := by rw [List.map_map]; rfl
    refine ⟨p, l, G, L, ns.map fun n => (V.str n, PyData.str n), rfl, W3, .inl (SqL.of (by rw [ez]; exact L3)), by rw [List.length_map]; omega, fun z m => ?_, fun r zs G4 H4 e4 r4 rn rg pm => ?_⟩
    · obtain ⟨n, mn, rfl⟩ := List.mem_map.mp m
      exact ⟨.str n, shn n mn⟩
    obtain ⟨ms, rfl, pms⟩ := perm_map_inv pm _ rfl
    have ez2 : (ms.map fun n => (V.str n, PyData.str n)).map Prod.fst = ms.map V.str := by rw [List.map_map]; rfl
    rw [ez2] at r4
    have rp := W3.np rn
    have rl := W3.nl rn
    obtain ⟨W4, s4⟩ := e4.w.hold rp rl rg r4
    have r4G : (upd G4 r (.lst (ms.map V.str))) r = some (.lst (ms.map V.str)) := upd_same
    have h4 := e4.keep _ _ hp hl h3
    have nhr : hd ≠ r := fun e => by
      rw [← e, h3] at rn
      cases rn
    have g4 : (upd G4 r (.lst (ms.map V.str))) hd = none := by
      rw [upd_ne nhr]
      exact e4.new _ _ h3 gh
    have s04 : Same G (upd G4 r (.lst (ms.map V.str))) := e4.sub.trans s4
    have k4 : ∀ b o, b ≠ p → b ≠ l → H b = some o → H4 b = some o := fun b o n1 n2 q => e4.keep b o n1 n2 (k3 b o n1 n2 q)
    generalize upd G4 r (.lst (ms.map V.str)) = G5 at W4 r4G g4 s04
    clear e4 r4 rg s4 W3 h3 L3 k3 pm rn
    have ndm : ms.Nodup := pms.nodup_iff.mpr nd
    have nnm : ¬ ("nil" : Str) ∈ ms := fun m => nn (pms.mem_iff.mp m)
    have lm : ms.length ≤ 8 := by rw [pms.length_eq]; exact ln
    refine ⟨r, rfl, ⟨_, SqL.of (W4.same _ _ r4G)⟩, for_list (K := K) (a := r) (xs := ms.map V.str) (fun i σ Hx => ∃ (tp : Int) (o5 : Option V), σ = [some (.ref p), some (.ref na), some (.int nl), some (.ref hd), some (.int tp), o5, none, none, none, none, none, none, none, none, none] ∧ 0 ≤ tp ∧ tp ≤ i ∧
        ∃ Gx hm, Wd p l Gx Hx ∧ Same G5 Gx ∧ Gx hd = none ∧ (∀ b o, b ≠ p → b ≠ l → H b = some o → Hx b = some o) ∧ Hx hd = some (.dK (kvK Sum.inr V.int hm)) ∧ keysA hm = ("nil" : Str) :: ms.take i ∧ getA hm "nil" = some 0 ∧ ∀ q ∈ hm, 0 ≤ q.2 ∧ q.2 ≤ tp)
      ⟨0, none, rfl, Int.le_refl _, Int.le_refl _, G5, _, W4, Same.refl _, g4, k4, h4, rfl, rfl, fun q m => by rw [List.mem_singleton.mp m]; exact ⟨Int.le_refl _, Int.le_refl _⟩⟩ (fun i σ Hx _ ⟨_, _, _, _, _, Gx, _, Wx, sx, _⟩ => SqL.of (Wx.same _ _ (sx _ _ r4G))) ?_ ?_⟩
    · rintro i x σ Hx hx ⟨tp, o5, rfl, t0, t1, Gx, hm, Wx, sx, gx, kx, hhx, kk, kn, kv⟩
      have hi := (List.getElem?_eq_some_iff.mp hx).1
      rw [List.length_map] at hi
      obtain ⟨n, hn, rfl⟩ : ∃ n, ms[i]? = some n ∧ x = V.str n := by
        rw [List.getElem?_map] at hx
        obtain ⟨n, e, q⟩ := Option.map_eq_some_iff.mp hx
        exact ⟨n, e, q.symm⟩
      have tk : ms.take (i + 1) = ms.take i ++ [n] := by rw [List.take_add_one, hn]; rfl
      have nin : ¬ n ∈ keysA hm := fun m => by
        rw [kk] at m
        rcases List.mem_cons.mp m with e | m
        · exact nnm (by rw [← e]; exact List.mem_of_getElem? hn)
        · obtain ⟨j, hj⟩ := List.mem_iff_getElem?.mp m
          have lj := (List.getElem?_eq_some_iff.mp hj).1
          rw [List.length_take] at lj
          rw [List.getElem?_take] at hj
          split at hj
          · have := (List.getElem?_inj (by omega) ndm).mp (hj.trans hn.symm)
            omega
          · cases hj
      have lhm : hm.length < sizeLine := by
        have := congrArg List.length kk
        unfold keysA at this
        rw [List.length_map, List.length_cons, List.length_take] at this
        omega
      dsimp only [gName, List.set]
      refine put_by (I := fun v H' => ∃ (z : Int) (G' : Hp), v = .int z ∧ 0 ≤ z ∧ z ≤ tp + 1 ∧ Ext p l Gx Hx G' H') (fun Qn fin => ?_) ?_
      · refine ⟨_, rfl, p, l, Gx, 2, rfl, by decide, by decide, Wx, fun d Hy d0 d1 ey => ⟨rfl, _, rfl, iteB (fun _ => ?_) (fun _ => ?_)⟩⟩
        · refine ⟨_, rfl, _, rfl, _, _, rfl, rfl, p, l, Gx, _, rfl, by omega, by omega, ey.w, fun z Hz z0 z1 ez => fin _ _ ⟨z, Gx, rfl, z0, by omega, ey.trans Wx ez⟩⟩
        · exact ⟨_, rfl, _, _, rfl, rfl, fin _ _ ⟨tp + 1, Gx, rfl, by omega, by omega, ey⟩⟩
      · rintro v Hy ⟨z, Gy, rfl, z0, z1, ey⟩
        have hhy := ey.keep _ _ hp hl hhx
        have gy := ey.new _ _ hhx gx
        refine ⟨_, rfl, _, rfl, hd, _, rfl, dputS (f := V.int) hhy n z lhm, ?_⟩
        have ky : ∀ b o, b ≠ p → b ≠ l → H b = some o → Hy b = some o := fun b o n1 n2 q => ey.keep b o n1 n2 (kx b o n1 n2 q)
        have epu : putA hm n z = hm ++ [(n, z)] := by unfold putA; rw [if_neg nin]
        rw [epu]
        have kk2 : keysA (hm ++ [(n, z)]) = ("nil" : Str) :: ms.take (i + 1) := by
          unfold keysA at kk ⊢
          rw [List.map_append, kk, tk]
          rfl
        have nen : ¬ ("nil" : Str) = n := fun e => nnm (by rw [e]; exact List.mem_of_getElem? hn)
        have kn2 : getA (hm ++ [(n, z)]) "nil" = some 0 := by
          have := get_putA (l := hm) (k := n) (x := ("nil" : Str)) (v := z)
          rw [epu, if_neg nen] at this
          rw [this, kn]
        have gn2 : getA (hm ++ [(n, z)]) n = some z := by
          have := get_putA (l := hm) (k := n) (x := n) (v := z)
          rw [epu, if_pos rfl] at this
          exact this
        have Wz := ey.w.own (o := .dK (kvK Sum.inr V.int (hm ++ [(n, z)]))) hp hl gy
        have hz : (upd Hy hd (.dK (kvK Sum.inr V.int (hm ++ [(n, z)])))) hd = some (.dK (kvK Sum.inr V.int (hm ++ [(n, z)]))) := upd_same
        have kz : ∀ b o, b ≠ p → b ≠ l → H b = some o → (upd Hy hd (.dK (kvK Sum.inr V.int (hm ++ [(n, z)])))) b = some o := fun b o n1 n2 q => by
          rw [upd_ne (ne_of_none q hh0)]
          exact ky b o n1 n2 q
        generalize upd Hy hd (.dK (kvK Sum.inr V.int (hm ++ [(n, z)]))) = Hz at Wz hz kz ⊢
        have dg : DGet Hz hd (.str n) (some (.int z)) := by
          have := dgetS (f := V.int) hz n
          rw [gn2] at this
          exact this
        refine ⟨_, rfl, _, rfl, _, rfl, hd, _, rfl, dg, _, _, rfl, ?_⟩
        dsimp only [gName, List.set]
        refine ⟨if z > tp then z else tp, _, rfl, by split <;> omega, by split <;> omega, Gy, _, Wz, sx.trans ey.sub, gy, kz, hz, kk2, kn2, fun q m => ?_⟩
        rcases List.mem_append.mp m with m | m
        · have := kv q m
          refine ⟨this.1, ?_⟩
          split <;> omega
        · rw [List.mem_singleton.mp m]
          refine ⟨z0, ?_⟩
          show z ≤ _
          split <;> omega
    · rintro σ Hx ⟨tp, o5, rfl, t0, t1, Gx, hm, Wx, sx, gx, kx, hhx, kk, kn, kv⟩
      rw [List.length_map] at t1
      rw [List.length_map, List.take_length] at kk
      clear W4 h4 k4 g4
      dsimp only [gName, List.set]
      have homeOk : HomeOk ns hm := ⟨by rw [kk]; exact pms.cons _, kn, fun q m => (kv q m).1⟩
      have lhm : hm.length ≤ 9 := by
        have := congrArg List.length kk
        unfold keysA at this
        rw [List.length_map, List.length_cons] at this
        omega
      have tp8 : tp ≤ 8 := by omega
      clear kk kn kv t1
      have ndH : (keysA hm).Nodup := homeOk.keys.nodup_iff.mpr (List.nodup_cons.mpr ⟨nn, nd⟩)
      have w0 : ∀ ws : Ws, WaysK 39 ws → ¬ (0 : Int) ∈ keysA ws := fun ws wok m => by
        obtain ⟨q, mq, e⟩ := List.mem_map.mp m
        have := wok.pos q mq
        omega
      -- spots, ways
      refine ⟨_, rfl, _, _, rfl, rfl, _, rfl, _, _, rfl, rfl, 1, tp + 1 + nl, rfl, rfl, RgOk.of_le (by omega) (by omega) (by omega) (by omega), fun sp hsp => ?_⟩
      rw [show tp + 1 + nl = tp + nl + 1 by omega, spL_rg]
      have f1 := Wx.put (o := .lst ((spL (tp + nl).toNat).map V.int)) hsp
      have hh1 := sameAdd (o := .lst ((spL (tp + nl).toNat).map V.int)) hsp _ _ hhx
      have gh1 : (upd Gx sp (.lst ((spL (tp + nl).toNat).map V.int))) hd = none := f1.new _ _ hhx gx
      have sp1 : (upd Gx sp (.lst ((spL (tp + nl).toNat).map V.int))) sp = some (.lst ((spL (tp + nl).toNat).map V.int)) := upd_same
      have ks1 : ∀ b o, b ≠ p → b ≠ l → H b = some o → (upd Hx sp (.lst ((spL (tp + nl).toNat).map V.int))) b = some o := fun b o n1 n2 q => f1.keep b o n1 n2 (kx b o n1 n2 q)
      have ss1 : Same G5 (upd Gx sp (.lst ((spL (tp + nl).toNat).map V.int))) := sx.trans f1.sub
      have Ws1 := f1.w
      have nsp : sp ≠ hd := fun e => by rw [e, hhx] at hsp; cases hsp
      generalize upd Gx sp (.lst ((spL (tp + nl).toNat).map V.int)) = Ga at Ws1 gh1 sp1 ss1
      generalize upd Hx sp (.lst ((spL (tp + nl).toNat).map V.int)) = Ha at Ws1 hh1 ks1 ⊢
      clear f1 hsp hhx kx sx gx Wx
      generalize hN : (tp + nl).toNat = N at sp1
      have lN : N ≤ 18 := by omega
      refine fun wd hwd => ⟨by show 2 ≤ sizeLine; decide, fun t ht => ⟨t, _, rfl, SqT.of upd_same, rfl, _, _, rfl, _, _, rfl, rfl, ?_⟩⟩
      have wp := Ws1.np hwd
      have wl := Ws1.nl hwd
      have gw : Ga wd = none := Ws1.same.free hwd
      have nwh : wd ≠ hd := fun e => by rw [e, hh1] at hwd; cases hwd
      have g1 := Ws1.tmp (o := .dK []) hwd
      have g2 := g1.trans Ws1 (g1.w.tmp (o := .tup [V.ref sp, V.ref wd]) ht)
      have hwd0 : H wd = none := by
        cases e : H wd with
        | none => rfl
        | some o =>
          have := ks1 _ _ wp wl e
          rw [hwd] at this
          cases this
      have hh2 := g2.keep _ _ hp hl hh1
      have wd2 : (upd (upd Ha wd (.dK [])) t (.tup [V.ref sp, V.ref wd])) wd = some (.dK (kvK Sum.inl wyV ([] : Ws))) := sameAdd ht _ _ upd_same
      have ks2 : ∀ b o, b ≠ p → b ≠ l → H b = some o → (upd (upd Ha wd (.dK [])) t (.tup [V.ref sp, V.ref wd])) b = some o := fun b o n1 n2 q => g2.keep b o n1 n2 (ks1 b o n1 n2 q)
      have Ws2 := g2.w
      generalize upd (upd Ha wd (.dK [])) t (.tup [V.ref sp, V.ref wd]) = Hb at Ws2 hh2 wd2 ks2 ⊢
      clear g1 g2 hwd ht hh1 ks1 Ws1
      dsimp only [gName, List.set]
      refine ⟨_, rfl, sp, rfl, ⟨_, SqL.of (Ws2.same _ _ sp1)⟩, for_list (K := K) (a := sp) (xs := (spL N).map V.int) (fun i σ Hx => ∃ (o5 o8 o9 o10 : Option V), σ = [some (.ref p), some (.ref na), some (.int nl), some (.ref hd), some (.int tp), o5, some (.ref sp), some (.ref wd), o8, o9, o10, none, none, none, none] ∧
          ∃ (Gx : Hp) (ws : Ws), Wd p l Gx Hx ∧ Same Ga Gx ∧ Gx hd = none ∧ Gx wd = none ∧ (∀ b o, b ≠ p → b ≠ l → H b = some o → Hx b = some o) ∧ Hx hd = some (.dK (kvK Sum.inr V.int hm)) ∧ Hx wd = some (.dK (kvK Sum.inl wyV ws)) ∧
          WaysK 39 ws ∧ ws.length ≤ i ∧ (∀ q ∈ ws, q.1 ≤ i) ∧ ∀ q ∈ ws, Gx q.2.1 = some (.tup [.str q.2.2.1, .int q.2.2.2]))
        ⟨_, _, _, _, rfl, Ga, [], Ws2, Same.refl _, gh1, gw, ks2, hh2, wd2, ⟨List.nodup_nil, fun q m => absurd m List.not_mem_nil, fun q m => absurd m List.not_mem_nil, fun q m => absurd m List.not_mem_nil, Nat.zero_le _⟩, Nat.le_refl _, fun q m => absurd m List.not_mem_nil, fun q m => absurd m List.not_mem_nil⟩
        (fun i σ Hx _ ⟨_, _, _, _, _, Gx, _, Wx, sx, _⟩ => SqL.of (Wx.same _ _ (sx _ _ sp1))) ?_ ?_⟩
      · rintro i x σ Hx hx ⟨o5, o8, o9, o10, rfl, Gx, ws, Wx, sx, gx, gwx, kx, hhx, wdx, wok, lws, wle, wt⟩
        obtain ⟨b, hb, rfl⟩ : ∃ b, (spL N)[i]? = some b ∧ x = V.int b := by
          rw [List.getElem?_map] at hx
          obtain ⟨n, e, q⟩ := Option.map_eq_some_iff.mp hx
          exact ⟨n, e, q.symm⟩
        obtain ⟨eb, iN⟩ := spL_at hb
        dsimp only [gName, List.set]
        -- end = _law_pick(deck, [0] + spots)
        refine ⟨_, rfl, by show 1 ≤ sizeLine; decide, fun c0 hc0 => ?_⟩
        have j1 := Wx.tmp (o := .lst [V.int 0]) hc0
        have C1 : (upd Hx c0 (.lst [V.int 0])) c0 = some (.lst [V.int 0]) := upd_same
        refine ⟨_, rfl, c0, sp, _, _, rfl, rfl, C1, j1.w.same _ _ (sx _ _ sp1), by rw [List.length_map, spL_len]; show 1 + N ≤ sizeLine; omega, fun c hc => ?_⟩
        have j2 := j1.trans Wx (j1.w.tmp (o := .lst ([V.int 0] ++ (spL N).map V.int)) hc)
        refine ⟨p, l, Gx, c, _, rfl, j2.w, upd_same, j1.w.np hc, j1.w.nl hc, by simp, by simp only [List.length_append, List.length_map, spL_len, List.length_cons, List.length_nil]; omega, fun xe Hy mx ey => ?_⟩
        obtain ⟨e, rfl, e0⟩ : ∃ e : Int, xe = .int e ∧ 0 ≤ e := by
          rcases List.mem_append.mp mx with m | m
          · exact ⟨0, List.mem_singleton.mp m, Int.le_refl _⟩
          · obtain ⟨z, mz, rfl⟩ := List.mem_map.mp m
            exact ⟨z, rfl, by have := spL_mem mz; omega⟩
        have jy := j2.trans Wx ey
        have hhy := jy.keep _ _ hp hl hhx
        have wdy := jy.keep _ _ wp wl wdx
        have ky : ∀ b o, b ≠ p → b ≠ l → H b = some o → Hy b = some o := fun b o n1 n2 q => jy.keep b o n1 n2 (kx b o n1 n2 q)
        have Wy := jy.w
        clear jy ey j2 j1 C1 hc hc0 mx hhx wdx kx
        dsimp only [gName, List.set]
        refine ⟨_, rfl, p, l, Gx, 5, rfl, by decide, by decide, Wy, fun d Hz d0 d1 ez => ⟨_, _, rfl, rfl, _, rfl, iteB (fun _ => ?_) (fun _ => ?_)⟩⟩
        · have hhz := ez.keep _ _ hp hl hhy
          have wdz := ez.keep _ _ wp wl wdy
          have kz : ∀ b o, b ≠ p → b ≠ l → H b = some o → Hz b = some o := fun b o n1 n2 q => ez.keep b o n1 n2 (ky b o n1 n2 q)
          have Wz := ez.w
          clear ez hhy wdy ky Wy
          refine asg_by (I := fun u H' => ∃ kd : Str, u = .str kd ∧ (kd = "short" ∨ (kd = "long" ∧ e ≠ b)) ∧ Ext p l Gx Hz Gx H') (fun Qn fin => ?_) ?_
          · refine ⟨_, rfl, _, rfl, rfl, _, rfl, ?_⟩
            by_cases eb2 : e = b
            · rw [decide_eq_true (show V.int e = V.int b by rw [eb2])]
              exact if_yes rfl (fin _ _ ⟨_, rfl, .inl rfl, Ext.refl Wz⟩)
            · rw [decide_eq_false (show ¬ V.int e = V.int b from fun z => eb2 (V.int.inj z))]
              refine if_no rfl ⟨_, rfl, by show 2 ≤ sizeLine; decide, fun c hc => ?_⟩
              have jc := Wz.tmp (o := .lst [V.str "short", .str "long"]) hc
              refine ⟨p, l, Gx, c, _, rfl, jc.w, upd_same, Wz.np hc, Wz.nl hc, by decide, by decide, fun xe H' mx ex => ?_⟩
              rcases List.mem_cons.mp mx with rfl | m
              · exact fin _ _ ⟨_, rfl, .inl rfl, jc.trans Wz ex⟩
              · rw [List.mem_singleton.mp m]
                exact fin _ _ ⟨_, rfl, .inr ⟨rfl, eb2⟩, jc.trans Wz ex⟩
          · rintro u H' ⟨kd, rfl, hkd, e'⟩
            dsimp only [gName, List.set]
            have hh' := e'.keep _ _ hp hl hhz
            have wd' := e'.keep _ _ wp wl wdz
            have k' : ∀ b o, b ≠ p → b ≠ l → H b = some o → H' b = some o := fun b o n1 n2 q => e'.keep b o n1 n2 (kz b o n1 n2 q)
            have W' := e'.w
            clear e' hhz wdz kz Wz
            refine ⟨_, rfl, _, rfl, by show 2 ≤ sizeLine; decide, fun tt htt => ?_⟩
            have jt := W'.put (o := .tup [V.str kd, .int e]) htt
            have hht := jt.keep _ _ hp hl hh'
            have wdt := jt.keep _ _ wp wl wd'
            have ght := jt.new _ _ hh' gx
            have gwt := jt.new _ _ wd' gwx
            have kt : ∀ b o, b ≠ p → b ≠ l → H b = some o → (upd H' tt (.tup [V.str kd, .int e])) b = some o := fun b o n1 n2 q => jt.keep b o n1 n2 (k' b o n1 n2 q)
            have T1 : (upd Gx tt (.tup [V.str kd, .int e])) tt = some (.tup [V.str kd, .int e]) := upd_same
            have st := jt.sub
            have Wt := jt.w
            generalize upd Gx tt (.tup [V.str kd, .int e]) = Gt at Wt ght gwt T1 st
            generalize upd H' tt (.tup [V.str kd, .int e]) = Ht at Wt hht wdt kt ⊢
            have bn : ¬ b ∈ keysA ws := fun m => by
              obtain ⟨q, mq, e2⟩ := List.mem_map.mp m
              have := wle q mq
              omega
            have epu : putA ws b (tt, kd, e) = ws ++ [(b, tt, kd, e)] := by unfold putA; rw [if_neg bn]
            refine ⟨_, rfl, _, rfl, wd, _, rfl, dputI (f := wyV) wdt b (tt, kd, e) (by omega), ?_⟩
            rw [epu]
            have aw : ∀ q ∈ ws ++ [(b, tt, kd, e)], q ∈ ws ∨ q = (b, tt, kd, e) := fun q m => (List.mem_append.mp m).imp id List.mem_singleton.mp
            refine ⟨_, _, _, _, rfl, Gt, ws ++ [(b, tt, kd, e)], Wt.own wp wl gwt, sx.trans st, ght, gwt, fun b o n1 n2 q => ?_, ?_, upd_same, ⟨?_, ?_, ?_, ?_, ?_⟩, ?_, ?_, ?_⟩
            · rw [upd_ne (ne_of_none q hwd0)]
              exact kt b o n1 n2 q
            · rw [upd_ne nwh.symm]
              exact hht
            · have := putA_nodup (k := b) (v := (tt, kd, e)) wok.nd
              rw [epu] at this
              exact this
            · exact fun q m => (aw q m).elim (wok.pos q) fun z => by rw [z]; show 0 < b; omega
            · exact fun q m => (aw q m).elim (wok.end0 q) fun z => by rw [z]; exact e0
            · exact fun q m => (aw q m).elim (wok.kind q) fun z => by rw [z]; exact hkd
            · rw [List.length_append, List.length_singleton]
              omega
            · rw [List.length_append, List.length_singleton]
              omega
            · exact fun q m => (aw q m).elim (fun m => by have := wle q m; omega) fun z => by rw [z]; show b ≤ _; omega
            · exact fun q m => (aw q m).elim (fun m => st _ _ (wt q m)) fun z => by rw [z]; exact T1
        · refine ⟨_, _, _, _, rfl, Gx, ws, ez.w, sx, gx, gwx, fun b o n1 n2 q => ez.keep b o n1 n2 (ky b o n1 n2 q), ez.keep _ _ hp hl hhy, ez.keep _ _ wp wl wdy, wok, Nat.le_succ_of_le lws, fun q m => ?_, wt⟩
          have := wle q m
          omega
      · rintro σ Hx ⟨o5, o8, o9, o10, rfl, Gx, ws, Wx, sx, gx, gwx, kx, hhx, wdx, wok, lws, wle, wt⟩
        rw [List.length_map, spL_len] at lws
        clear Ws2 hh2 wd2 ks2 wle
        dsimp only [gName, List.set]
        -- for turn in range(nameless + 1)
        refine ⟨_, rfl, _, _, rfl, rfl, nl + 1, rfl, by omega, by omega, for_range (lo := 0) (n := (nl + 1).toNat) (fun i σ Hx => ∃ (o5 o8 o9 o10 o11 o12 o13 o14 : Option V) (wd : Addr), σ = [some (.ref p), some (.ref na), some (.int nl), some (.ref hd), some (.int tp), o5, some (.ref sp), some (.ref wd), o8, o9, o10, o11, o12, o13, o14] ∧
            ∃ (Gx : Hp) (ws : Ws), Wd p l Gx Hx ∧ Same G5 Gx ∧ Gx hd = none ∧ (∀ b o, b ≠ p → b ≠ l → H b = some o → Hx b = some o) ∧ Hx hd = some (.dK (kvK Sum.inr V.int hm)) ∧ Hx wd = some (.dK (kvK Sum.inl wyV ws)) ∧ WaysK 39 ws ∧ ∀ q ∈ ws, SqT K Gx q.2.1 [.str q.2.2.1, .int q.2.2.2])
          ⟨_, _, _, _, none, none, none, none, wd, rfl, Gx, ws, Wx, ss1.trans sx, gx, kx, hhx, wdx, wok, fun q m => SqT.of (wt q m)⟩ ?_ ?_⟩
        · clear Wx sx gx gwx kx hhx wdx wok lws wt ws Gx Hx o5 o8 o9 o10
          rintro i σ Hx hi ⟨o5, o8, o9, o10, o11, o12, o13, o14, wd, rfl, Gx, ws, Wx, sx, gx, kx, hhx, wdx, wok, wt⟩
          dsimp only [gName, List.set]
          refine ⟨_, rfl, _, rfl, hd, wd, hm, ws, rfl, hhx, wdx, fun q m => sameT Wx.same (wt q m), ndH, by omega, wok.nd, by have := wok.len; omega, w0 ws wok, fun ys bs v Hy pys sys beg sy res => ?_⟩
          dsimp only [gName, List.set]
          refine ⟨_, rfl, rfl, _, rfl, ?_⟩
          rcases res with ⟨hno, rfl⟩ | ⟨c, hc, dc⟩
          rotate_left 1
          · rw [decide_eq_false (show ¬ v = .non from fun e => by rw [e] at dc; cases dc)]
            obtain ⟨G', e', s'⟩ := W.back Wx kx sy
            exact if_yes rfl ⟨_, rfl, k c v G' Hy ⟨ys, hm, ws, bs, homeOk, wok.up, pys, up_of sys, beg, hc⟩ (by rw [numF_alen hc]; exact wok.len) e' (dc.mono s')⟩
          rw [decide_eq_true (show (V.non : V) = .non from rfl)]
          refine if_no rfl ?_
          have Wy := (Wx.still sy).w
          have hhy := sy _ _ hhx
          have wdy := sy _ _ wdx
          have ky : ∀ b o, b ≠ p → b ≠ l → H b = some o → Hy b = some o := fun b o n1 n2 q => sy _ _ (kx b o n1 n2 q)
          clear sy kx hhx wdx Wx hno pys sys beg ys bs
          -- met
          rw [tNext]
          dsimp only
          rw [eSeq, eAsg]
          refine lc_keys (d := hd) (kvs := kvK Sum.inr V.int hm) rfl hhy (fun i xs Hx => ∃ zs : List Int, xs = zs.map V.int) (fun _ _ _ _ _ h => h) ⟨[], rfl⟩ ?_ (by rw [kv_len]; omega) ?_
          · rintro ob j kk v Hz xs Ny Nn hk fz bx ⟨zs, rfl⟩ lx yes no
            obtain ⟨⟨n, z⟩, hr, e⟩ : ∃ q, hm[j]? = some q ∧ (Sum.inr q.1, V.int q.2) = (kk, v) := by
              unfold kvK at hk
              rw [List.getElem?_map] at hk
              obtain ⟨q, e1, e2⟩ := Option.map_eq_some_iff.mp hk
              exact ⟨q, e1, e2⟩
            cases e
            have dg : DGet Hz hd (.str n) (some (.int z)) := by
              have := dgetSR (f := V.int) (.inr ⟨ob, fz⟩) n
              rw [mem_getA ndH (List.mem_of_getElem? hr)] at this
              exact this
            rw [eYes]
            exact if_yes rfl ⟨_, rfl, _, rfl, hd, _, rfl, dg, yes _ _ fz (But.refl _ _) ⟨zs ++ [z], by rw [List.map_append]; rfl⟩⟩
          · rintro M xs Hz syz hM Mz ⟨zs, rfl⟩ lx
            rw [kv_len, List.length_map] at lx
            have Wz := (Wy.still syz).w
            have hhz := syz _ _ hhy
            have wdz := syz _ _ wdy
            have kz : ∀ b o, b ≠ p → b ≠ l → H b = some o → Hz b = some o := fun b o n1 n2 q => syz _ _ (ky b o n1 n2 q)
            have Mp := Wy.np hM
            have Ml := Wy.nl hM
            have gM : Gx M = none := Wy.same.free hM
            have M0 : H M = none := by
              cases e : H M with
              | none => rfl
              | some o =>
                have := ky _ _ Mp Ml e
                rw [hM] at this
                cases this
            clear syz hhy wdy ky hM Wy
            dsimp only [gName, List.set]
            refine ⟨_, rfl, wd, _, rfl, .of wdz, fun L1 hL1 => ⟨_, rfl, _, _, rfl, rfl, ?_⟩⟩
            have j1 := Wz.tmp (o := .lst ((kvK Sum.inl wyV ws).map fun kv => kV kv.1)) hL1
            have L2 : (upd Hz L1 (.lst ((kvK Sum.inl wyV ws).map fun kv => kV kv.1))) L1 = some (.lst ((keysA ws).map V.int)) := by
              rw [upd_same]
              unfold kvK keysA
              rw [List.map_map, List.map_map]
              rfl
            have lws : ws.length ≤ 40 := wok.up.len
            have lkw : (keysA ws).length ≤ 40 := by unfold keysA; rw [List.length_map]; exact lws
            have lrep : ((keysA ws).map V.int).length * (nl + 1).toNat ≤ 440 := by
              rw [List.length_map]
              refine Nat.le_trans (Nat.mul_le_mul lkw (show (nl + 1).toNat ≤ 11 by omega)) (by decide)
            refine ⟨L1, _, _, rfl, rfl, L2, by omega, by omega, by omega, fun L3 hL3 => ?_⟩
            have j2 := j1.trans Wz (j1.w.tmp (o := .lst (List.replicate (nl + 1).toNat ((keysA ws).map V.int)).flatten) hL3)
            have L4 : (upd (upd Hz L1 (.lst ((kvK Sum.inl wyV ws).map fun kv => kV kv.1))) L3 (.lst (List.replicate (nl + 1).toNat ((keysA ws).map V.int)).flatten)) L3 = some (.lst (List.replicate (nl + 1).toNat ((keysA ws).map V.int)).flatten) := upd_same
            have hh4 := j2.keep _ _ hp hl hhz
            have M4 := j2.keep _ _ Mp Ml Mz
            have wp' : wd ≠ p := fun e => by
              obtain ⟨m, t, _, _, h⟩ := Wz.dk
              rw [← e, wdz] at h
              cases h
            have wl' : wd ≠ l := fun e => by
              obtain ⟨m, _, h⟩ := Wz.ls
              rw [← e, wdz] at h
              cases h
            have wd4 := j2.keep _ _ wp' wl' wdz
            have k4 : ∀ b o, b ≠ p → b ≠ l → H b = some o → (upd (upd Hz L1 (.lst ((kvK Sum.inl wyV ws).map fun kv => kV kv.1))) L3 (.lst (List.replicate (nl + 1).toNat ((keysA ws).map V.int)).flatten)) b = some o := fun b o n1 n2 q => j2.keep b o n1 n2 (kz b o n1 n2 q)
            have W4 := j2.w
            have nML : M ≠ L3 := fun e => by
              rw [← e] at hL3
              have := j1.keep _ _ Mp Ml Mz
              rw [hL3] at this
              cases this
            generalize hfl : (List.replicate (nl + 1).toNat ((keysA ws).map V.int)).flatten = fl at L4 W4 hh4 M4 wd4 k4 ⊢
            have lfl : fl.length ≤ 440 := by
              rw [← hfl, PyProof.Rows.lm_len_rep_flat]
              rw [Nat.mul_comm]
              exact lrep
            have mfl : ∀ x ∈ fl, ∃ b : Int, x = V.int b := fun x m => by
              rw [← hfl, List.mem_flatten] at m
              obtain ⟨r, hr, m⟩ := m
              rw [(List.mem_replicate.mp hr).2] at m
              obtain ⟨b, _, e⟩ := List.mem_map.mp m
              exact ⟨b, e.symm⟩
            generalize upd (upd Hz L1 (.lst ((kvK Sum.inl wyV ws).map fun kv => kV kv.1))) L3 (.lst fl) = H4 at L4 W4 hh4 M4 wd4 k4 ⊢
            clear hfl j1 j2 L2 hL1 hL3 hhz Mz wdz kz Wz lrep
            refine ⟨L3, rfl, ⟨_, SqL.of L4⟩, for_list (K := K) (a := L3) (xs := fl) (fun j σ Hx => ∃ (o14 : Option V) (zs : List Int), σ = [some (.ref p), some (.ref na), some (.int nl), some (.ref hd), some (.int tp), o5, some (.ref sp), some (.ref wd), o8, o9, o10, some (.int (0 + (i : Int))), some .non, some (.ref M), o14] ∧
                Wd p l Gx Hx ∧ (∀ b o, b ≠ p → b ≠ l → H b = some o → Hx b = some o) ∧ Hx hd = some (.dK (kvK Sum.inr V.int hm)) ∧ Hx wd = some (.dK (kvK Sum.inl wyV ws)) ∧ Hx L3 = some (.lst fl) ∧ Hx M = some (.lst (zs.map V.int)) ∧ zs.length ≤ 9 + j)
              ⟨_, zs, rfl, W4, k4, hh4, wd4, L4, M4, by omega⟩ (fun j σ Hx _ ⟨_, _, _, _, _, _, _, h, _⟩ => SqL.of h) ?_ ?_⟩
            · clear W4 k4 hh4 wd4 L4 M4 lx
              rintro j x σ Hx hx ⟨o14, zs, rfl, Wx, kx, hhx, wdx, Lx, Mx, lz⟩
              have hj := (List.getElem?_eq_some_iff.mp hx).1
              obtain ⟨b, rfl⟩ := mfl x (List.mem_of_getElem? hx)
              dsimp only [gName, List.set]
              refine ⟨_, rfl, _, rfl, M, _, rfl, .inl (SqL.of Mx), rfl, flat_ints zs, _, rfl, ?_⟩
              show if inV (.int b) (zs.map V.int) = true then _ else _
              rw [inV_int]
              refine iteD (fun h1 => ?_) (fun h1 => ⟨_, zs, rfl, Wx, kx, hhx, wdx, Lx, Mx, by omega⟩)
              refine ⟨_, rfl, _, rfl, wd, _, rfl, dgetI (f := wyV) wdx b, _, rfl, ?_⟩
              rw [isA]
              refine iteD (fun h2 => ?_) (fun h2 => ⟨_, zs, rfl, Wx, kx, hhx, wdx, Lx, Mx, by omega⟩)
              obtain ⟨y, hy, my⟩ := getA_in h2
              have dg : DGet Hx wd (.int b) (some (.ref y.1)) := by
                have := dgetI (f := wyV) wdx b
                rw [hy] at this
                exact this
              refine ⟨_, rfl, .inl ⟨rfl, _, SqL.of Mx⟩, _, rfl, _, rfl, wd, _, rfl, dg, y.1, _, 1, V.int y.2.2, rfl, rfl, sameT Wx.same (wt _ my), rfl, M, _, _, rfl, rfl, Mx, by rw [List.length_map]; omega, ?_⟩
              have nMh : M ≠ hd := fun e => by rw [e, hhx] at Mx; cases Mx
              have nMw : M ≠ wd := fun e => by rw [e, wdx] at Mx; cases Mx
              refine ⟨_, zs ++ [y.2.2], rfl, Wx.own Mp Ml gM, fun b o n1 n2 q => ?_, by rw [upd_ne nMh.symm]; exact hhx, by rw [upd_ne nMw.symm]; exact wdx, by rw [upd_ne nML.symm]; exact Lx, by rw [upd_same, List.map_append]; rfl, by rw [List.length_append, List.length_singleton]; omega⟩
              rw [upd_ne (ne_of_none q M0)]
              exact kx b o n1 n2 q
            · clear W4 k4 hh4 wd4 L4 M4 lx zs
              rintro σ Hx ⟨o14, zs, rfl, Wx, kx, hhx, wdx, Lx, Mx, lz⟩
              dsimp only [gName, List.set]
              rw [eAsg, eCB, eCons]
              refine lc_keys (d := wd) (kvs := kvK Sum.inl wyV ws) rfl wdx (fun j xs Hv => ∃ ts : List Addr, xs = ts.map V.ref ∧ Paired (fun (t : Addr) (q : Int × Wy) => t ≠ wd ∧ Hv t = some (.tup [.int q.1, .ref q.2.1])) ts ((ws.take j).filter fun q => decide (q.1 ∈ zs)))
                ?_ ⟨[], rfl, .nil⟩ ?_ (by rw [kv_len]; have := wok.len; omega) ?_
              · rintro j xs H5 H6 kp ⟨ts, rfl, pr⟩
                exact ⟨ts, rfl, paired_mpL pr fun t q ⟨nt, h⟩ => ⟨nt, kp t _ nt h⟩⟩
              · rintro ob j kk v Hv xs Ny Nn hk fz bx ⟨ts, rfl, pr⟩ lx yes no
                obtain ⟨⟨s, y⟩, hr, e⟩ : ∃ q, ws[j]? = some q ∧ (Sum.inl q.1, wyV q.2) = (kk, v) := by
                  unfold kvK at hk
                  rw [List.getElem?_map] at hk
                  obtain ⟨q, e1, e2⟩ := Option.map_eq_some_iff.mp hk
                  exact ⟨q, e1, e2⟩
                cases e
                have tk : ws.take (j + 1) = ws.take j ++ [(s, y)] := by rw [List.take_add_one, hr]; rfl
                have nMw : M ≠ wd := fun e => by rw [e, wdx] at Mx; cases Mx
                have Mv := bx _ _ nMw Mx
                refine ⟨_, rfl, _, rfl, M, _, rfl, .inl (SqL.of Mv), rfl, flat_ints zs, _, rfl, ?_⟩
                show if inV (.int s) (zs.map V.int) = true then _ else _
                rw [inV_int]
                refine iteD (fun h1 => ?_) (fun h1 => ?_)
                · have dg : DGet Hv wd (.int s) (some (.ref y.1)) := by
                    have := dgetIR (f := wyV) (.inr ⟨ob, fz⟩) s
                    rw [mem_getA wok.nd (List.mem_of_getElem? hr)] at this
                    exact this
                  refine ⟨_, rfl, _, rfl, _, rfl, wd, _, rfl, dg, by show 2 ≤ sizeLine; decide, fun t ht => ?_⟩
                  have ntw : t ≠ wd := fun z => by rw [z, fz] at ht; cases ht
                  have b6 : But wd Hv (upd Hv t (.tup [V.int s, V.ref y.1])) := (But.refl wd Hv).add ht
                  refine yes _ _ (by rw [upd_ne ntw.symm]; exact fz) b6 ⟨ts ++ [t], by rw [List.map_append]; rfl, ?_⟩
                  rw [tk, List.filter_append, List.filter_cons_of_pos (by simpa using h1), List.filter_nil]
                  exact paired_snoc (paired_mpL pr fun t q ⟨nt, h⟩ => ⟨nt, b6 _ _ nt h⟩) ⟨ntw, upd_same⟩
                · refine no _ fz (But.refl _ _) ⟨ts, rfl, ?_⟩
                  rw [tk, List.filter_append, List.filter_cons_of_neg (by simpa using h1), List.filter_nil, List.append_nil]
                  exact pr
              · rintro L5 xs Hv sxv hL5 L5v ⟨ts, rfl, pr⟩ lxv
                rw [kv_len, List.take_length] at pr
                have sub : (ws.filter fun q => decide (q.1 ∈ zs)).Sublist ws := List.filter_sublist
                generalize ws.filter (fun q => decide (q.1 ∈ zs)) = us at pr sub
                have uok : WaysK 39 us := ⟨List.Sublist.nodup (sub.map Prod.fst) wok.nd, fun q m => wok.pos q (sub.subset m), fun q m => wok.end0 q (sub.subset m), fun q m => wok.kind q (sub.subset m), Nat.le_trans sub.length_le wok.len⟩
                have Wv := (Wx.still sxv).w
                refine ⟨L5, ts, kvK Sum.inl wyV us, rfl, SqL.of L5v, ?_, fun w2 hw2 => ?_⟩
                · clear sub uok sxv L5v lxv
                  induction pr with
                  | nil => exact .nil
                  | cons h _ ih => exact .cons (SqT.of h.2) ih
                · have mm := merge_kv (ι := (Sum.inl : Int → Key)) (f := wyV) inl_inj us [] (by rw [List.nil_append]; exact uok.nd)
                  rw [List.nil_append] at mm
                  have mm2 : mergeK [] (kvK (Sum.inl : Int → Key) wyV us) = kvK Sum.inl wyV us := mm
                  rw [mm2]
                  dsimp only [gName, List.set]
                  exact ⟨_, _, _, _, _, _, _, _, w2, rfl, Gx, us, (Wv.tmp hw2).w, sx, gx, fun b o n1 n2 q => sameAdd hw2 _ _ (sxv _ _ (kx b o n1 n2 q)), sameAdd hw2 _ _ (sxv _ _ hhx), upd_same, uok, fun q m => wt q (sub.subset m)⟩
        · rintro σ Hv ⟨o5, o8, o9, o10, o11, o12, o13, o14, wd, rfl, Gv, us, Wv, _, gv, kv, hhv, _, _, _⟩
          refine ⟨_, rfl, fun w2 hw2 => ?_⟩
          have e2 := Wv.tmp (o := .dK []) hw2
          refine ⟨hd, w2, hm, [], rfl, sameAdd hw2 _ _ hhv, upd_same, fun q m => absurd m List.not_mem_nil, ndH, by omega, List.nodup_nil, by decide, List.not_mem_nil, fun ys bs v Hy pys sys beg sy res => ?_⟩
          rcases res with ⟨hno, _⟩ | ⟨c, hc, dc⟩
          · unfold numF at hno
            rw [if_pos (show ∀ k ∈ keysA ([] : Ws), k ∈ orderF [] bs (0 :: bs) from fun k m => absurd m List.not_mem_nil)] at hno
            cases hno
          · obtain ⟨G', e', s'⟩ := W.back e2.w (fun b o n1 n2 q => e2.keep b o n1 n2 (kv b o n1 n2 q)) sy
            exact k c v G' Hy ⟨ys, hm, [], bs, homeOk, ⟨List.nodup_nil, fun q m => absurd m List.not_mem_nil, fun q m => absurd m List.not_mem_nil, fun q m => absurd m List.not_mem_nil, by decide⟩, pys, up_of sys, beg, hc⟩ (by rw [numF_alen hc]; decide) e' (dc.mono s')
end
end L2.Hx

/-! What a drawn case is; where a name stands in it; the looks. -/
namespace L2.Hx
open PySem PySem.Spec PyProof.Rows
structure CaseOk (ns : List Str) (c : Cs) : Prop where
  perm : c.1.flatten.Perm ns
  pos : 0 < c.1.length
  len : c.1.length ≤ 60
  alen : c.2.length ≤ 40
  bnd : (c.2.map fun q => q.1).Nodup
  ar : ∀ q ∈ c.2, 0 ≤ q.1 ∧ q.1 < c.1.length ∧ (q.2.1 = "short" ∨ q.2.1 = "long") ∧ 0 ≤ q.2.2 ∧ q.2.2 < c.1.length
theorem ixO_lt {o : List Int} {s : Int} (h : s ∈ o) : 0 ≤ ixO o s ∧ ixO o s < o.length := by
  have := List.idxOf_lt_length_of_mem h
  unfold ixO
  omega
theorem begins_len {ys : List Str} {hm : Hm} {bs : List Int} (h : Begins ys hm bs) : bs.length ≤ hm.length := by
  have := once_len (T := bs) (ks := hm.map Prod.snd) ⟨h.nd, fun s m => by
    obtain ⟨_, ne⟩ := (h.mem s).mp m
    obtain ⟨n, r, e⟩ := List.exists_cons_of_ne_nil ne
    have mn : n ∈ lotF ys hm s := by
      rw [e]
      exact List.mem_cons_self
    exact List.mem_map.mpr ⟨_, getA_mem (mem_lotF.mp mn).2.2, rfl⟩⟩
  rw [List.length_map] at this
  exact this
theorem case_ok {ns : List Str} {c : Cs} (nd : ns.Nodup) (nn : ¬ ("nil" : Str) ∈ ns) (ln : ns.length ≤ 8) (h : CaseF ns c) : CaseOk ns c := by
  obtain ⟨ys, hm, ws, bs, ho, wo, py, _, bg, hc⟩ := h
  unfold numF at hc
  split at hc
  · rename_i hall
    cases hc
    have n0 : ¬ (0 : Int) ∈ bs := fun m => ((bg.mem 0).mp m).1 rfl
    have nd0 : (0 :: bs).Nodup := List.nodup_cons.mpr ⟨n0, bg.nd⟩
    have ndo := orderF_nodup ws bs nd0
    have k0 : ¬ (0 : Int) ∈ keysA ws := fun m => by
      obtain ⟨q, mq, e⟩ := List.mem_map.mp m
      have := wo.pos q mq
      omega
    have lhm : hm.length ≤ 9 := by
      have := ho.keys.length_eq
      unfold keysA at this
      rw [List.length_map, List.length_cons] at this
      omega
    have lbs := begins_len bg
    have lw := wo.len
    have lo := ord_len (ws := ws) (bs := bs) ndo (orderF_sub (fun x m => List.mem_append_left _ m) fun k m => List.mem_append_right _ (List.mem_map.mpr ⟨k, m, rfl⟩))
    obtain ⟨t, et⟩ := orderF_pre ws bs (0 :: bs)
    have m0 : ∀ x, x ∈ 0 :: bs → x ∈ orderF ws bs (0 :: bs) := fun x m => by
      rw [et]
      exact List.mem_append_left _ m
    have cl := orderF_closed (ws := ws) (bs := bs) k0
    generalize hod : orderF ws bs (0 :: bs) = od at hall ndo lo m0 cl
    have pos : 0 < od.length := List.length_pos_of_mem (m0 0 List.mem_cons_self)
    refine ⟨?_, by rw [List.length_map]; exact pos, by rw [List.length_map]; omega, ?_, ?_, ?_⟩
    · refine (flat_perm ys hm ndo).trans ?_
      have e1 : (ys.filter fun n => decide (n ≠ ("nil" : Str)) && decide (∃ s ∈ od, getA hm n = some s)) = ys.filter fun n => decide (n ≠ ("nil" : Str)) := by
        refine List.filter_congr fun n m => ?_
        by_cases en : n = "nil"
        · rw [decide_eq_false (fun z => z en), Bool.false_and]
        · obtain ⟨s, e, _⟩ := getA_in (py.mem_iff.mp m)
          have ml : n ∈ lotF ys hm s := mem_lotF.mpr ⟨m, en, e⟩
          have : ∃ s ∈ od, getA hm n = some s := by
            refine ⟨s, m0 s ?_, e⟩
            by_cases es : s = 0
            · rw [es]
              exact List.mem_cons_self
            · exact List.mem_cons_of_mem _ ((bg.mem s).mpr ⟨es, fun z => by rw [z] at ml; exact List.not_mem_nil ml⟩)
          rw [decide_eq_true this, Bool.and_true]
      rw [e1]
      refine ((py.trans ho.keys).filter _).trans (List.Perm.of_eq ?_)
      rw [List.filter_cons_of_neg (by simp)]
      exact List.filter_eq_self.mpr fun n m => decide_eq_true fun z => nn (by rw [← z]; exact m)
    · unfold arsF
      rw [List.length_mergeSort, List.length_map]
      exact lw
    · unfold arsF
      refine ((List.mergeSort_perm (ws.map fun q => (ixO od q.1, q.2.2.1, ixO od q.2.2.2)) (PySem.W.dataLe false arD)).map fun q => q.1).nodup_iff.mpr ?_
      rw [List.map_map]
      have nk := wo.nd
      unfold keysA at nk
      rw [List.nodup_iff_pairwise_ne, List.pairwise_map] at nk ⊢
      refine nk.imp_of_mem fun {a b} ma mb hne e => hne ?_
      have ka := hall _ (List.mem_map.mpr ⟨a, ma, rfl⟩)
      have kb := hall _ (List.mem_map.mpr ⟨b, mb, rfl⟩)
      have e2 : od.idxOf a.1 = od.idxOf b.1 := Int.ofNat.inj e
      have h1 := List.getElem?_eq_getElem (List.idxOf_lt_length_of_mem ka)
      have h2 := List.getElem?_eq_getElem (List.idxOf_lt_length_of_mem kb)
      rw [List.getElem_idxOf] at h1 h2
      rw [e2, h2] at h1
      exact (Option.some.inj h1).symm
    · intro q m
      unfold arsF at m
      obtain ⟨r, mr, rfl⟩ := List.mem_map.mp ((List.mergeSort_perm _ _).mem_iff.mp m)
      have mk : r.1 ∈ keysA ws := List.mem_map.mpr ⟨r, mr, rfl⟩
      have h1 := ixO_lt (hall _ mk)
      have h2 := cl _ (hall _ mk) mk
      rw [endW_of (mem_getA wo.nd mr)] at h2
      have h3 := ixO_lt h2
      rw [List.length_map]
      exact ⟨h1.1, h1.2, (wo.kind r mr).imp id fun z => z.1, h3.1, h3.2⟩
  · cases hc
/-- the lot that has the name -/
def spotF (lots : List (List Str)) (t : Str) : Nat := if t = "nil" then 0 else lots.findIdx fun l => decide (t ∈ l)
theorem find_uniq {t : Str} : ∀ {lots : List (List Str)} {i : Nat} {l : List Str}, lots.flatten.Nodup → lots[i]? = some l → t ∈ l → lots.findIdx (fun l => decide (t ∈ l)) = i
  | [], _, _, _, h, _ => by cases h
  | l0 :: ls, 0, l, _, h, m => by
    cases h
    rw [List.findIdx_cons, decide_eq_true m]
    rfl
  | l0 :: ls, i + 1, l, nd, h, m => by
    have h : ls[i]? = some l := h
    rw [List.flatten_cons] at nd
    obtain ⟨_, n2, n3⟩ := List.nodup_append.mp nd
    have no : ¬ t ∈ l0 := fun z => n3 t z t (List.mem_flatten.mpr ⟨l, List.mem_of_getElem? h, m⟩) rfl
    rw [List.findIdx_cons, decide_eq_false no, find_uniq n2 h m]
    rfl
theorem find_at {t : Str} {lots : List (List Str)} (nd : lots.flatten.Nodup) (m : t ∈ lots.flatten) : ∃ l, lots[lots.findIdx fun l => decide (t ∈ l)]? = some l ∧ t ∈ l := by
  obtain ⟨l, ml, mt⟩ := List.mem_flatten.mp m
  obtain ⟨i, e⟩ := List.mem_iff_getElem?.mp ml
  exact ⟨l, by rw [find_uniq nd e mt]; exact e, mt⟩
theorem CaseOk.nd {ns : List Str} {c : Cs} (h : CaseOk ns c) (nd : ns.Nodup) : c.1.flatten.Nodup := h.perm.nodup_iff.mpr nd
theorem CaseOk.spot_lt {ns : List Str} {c : Cs} {t : Str} (h : CaseOk ns c) (nd : ns.Nodup) (m : t = "nil" ∨ t ∈ ns) : spotF c.1 t < c.1.length := by
  unfold spotF
  split
  · exact h.pos
  · rename_i e
    obtain ⟨l, e2, _⟩ := find_at (h.nd nd) (h.perm.mem_iff.mpr (m.resolve_left e))
    exact (List.getElem?_eq_some_iff.mp e2).1
theorem CaseOk.spot_iff {ns : List Str} {c : Cs} {t : Str} {i : Nat} {l : List Str} (h : CaseOk ns c) (nd : ns.Nodup) (nn : ¬ ("nil" : Str) ∈ ns) (m : t = "nil" ∨ t ∈ ns) (hi : c.1[i]? = some l) : (t ∈ l ∨ (t = "nil" ∧ i = 0)) ↔ i = spotF c.1 t := by
  have nnl : ¬ ("nil" : Str) ∈ l := fun z => nn (h.perm.mem_iff.mp (List.mem_flatten.mpr ⟨l, List.mem_of_getElem? hi, z⟩))
  unfold spotF
  by_cases e : t = "nil"
  · rw [if_pos e]
    exact ⟨fun z => z.elim (fun y => absurd (by rw [← e]; exact y) nnl) fun y => y.2, fun z => .inr ⟨e, z⟩⟩
  · rw [if_neg e]
    refine ⟨fun z => z.elim (fun y => (find_uniq (h.nd nd) hi y).symm) fun y => absurd y.1 e, fun z => .inl ?_⟩
    obtain ⟨l2, e2, m2⟩ := find_at (h.nd nd) (h.perm.mem_iff.mpr (m.resolve_left e))
    rw [← z, hi] at e2
    cases e2
    exact m2
theorem da_strs_inv {K : PySem.W.Frag} {G : Hp} : ∀ {vs : List V} {ys : List Str}, DaAll K G vs (ys.map PyData.str) → vs = ys.map V.str
  | [], [], _ => rfl
  | v :: vs, y :: ys, h => by
    cases h with
    | cons h1 h2 =>
      cases h1
      rw [da_strs_inv h2]
      rfl
  | [], y :: ys, h => by cases h
  | v :: vs, [], h => by cases h
theorem da_case {K : PySem.W.Frag} {G : Hp} {v : V} {c : Cs} (h : Da K G v (caseD c)) : ∃ a b1 b2 ls as, v = .ref a ∧ SqT K G a [.ref b1, .ref b2] ∧ SqT K G b1 ls ∧ DaAll K G ls (c.1.map fun l => .tuple (l.map .str)) ∧ SqT K G b2 as ∧ DaAll K G as (c.2.map arD) := by
  obtain ⟨a, xs, e, sq, da⟩ := h.tupI
  cases da with
  | cons h1 t =>
    cases t with
    | cons h2 t =>
      cases t
      obtain ⟨b1, ls, rfl, s1, d1⟩ := h1.tupI
      obtain ⟨b2, as, rfl, s2, d2⟩ := h2.tupI
      exact ⟨a, b1, b2, ls, as, e, sq, s1, d1, s2, d2⟩
theorem da_lot {K : PySem.W.Frag} {G : Hp} {ls : List V} {lots : List (List Str)} {i : Nat} {x : V} (h : DaAll K G ls (lots.map fun l => .tuple (l.map .str))) (hx : ls[i]? = some x) : ∃ a l, lots[i]? = some l ∧ x = .ref a ∧ SqT K G a (l.map V.str) := by
  obtain ⟨d, e, da⟩ := h.get hx
  rw [List.getElem?_map] at e
  obtain ⟨l, e1, rfl⟩ := Option.map_eq_some_iff.mp e
  obtain ⟨a, xs, rfl, sq, da2⟩ := da.tupI
  exact ⟨a, l, e1, rfl, by rw [← da_strs_inv da2]; exact sq⟩
section
variable {P : Program} {w : World} {K : PySem.W.Frag} {mg : Str → Option Value} {base : Heap}
theorem walk_enumT {a : Addr} {xs : List V} : Walk (Iet K a) xs.length (fun H => SqT K H a xs) (YPair (fun i => some (.int (i : Nat))) (fun i => xs[i]?)) :=
  ⟨fun i H hi h => ⟨xs, xs[i], h, by simp [hi]⟩, fun H h => ⟨xs, h, Nat.le_refl _⟩, fun i H x H' hi h y => by
    obtain ⟨T, z, rfl, hT, rfl, y⟩ := y
    exact ⟨T, _, z, rfl, hT, rfl, rfl, y xs h⟩⟩
end
end L2.Hx

/-! A store and cells drawn of a case. -/
namespace L2.Hx
open PySem PySem.Spec PyProof.Rows
theorem Wd.allnew {p l : Addr} {G H G2 H' : Hp} (W : Wd p l G H) (W' : Wd p l G2 H') (s2 : Same G G2) (k : ∀ b o, b ≠ p → b ≠ l → H b = some o → H' b = some o) : ∃ G', Ext p l G H G' H' ∧ Same (Nw H H') G' := by
  obtain ⟨o1, hp⟩ : ∃ o, H p = some o := by
    obtain ⟨m, t, _, _, h⟩ := W.dk
    exact ⟨_, h⟩
  obtain ⟨o2, hl⟩ : ∃ o, H l = some o := by
    obtain ⟨m, _, h⟩ := W.ls
    exact ⟨_, h⟩
  refine ⟨fun b => if (H b).isNone = true then H' b else G b, ⟨⟨fun b o q => ?_, ?_, ?_, W'.dk, W'.ls⟩, fun b o q => ?_, k, fun b o q g => ?_⟩, fun b o q => ?_⟩
  · split at q
    · exact q
    · exact W'.same _ _ (s2 _ _ q)
  · show (if (H p).isNone = true then H' p else G p) = none
    rw [hp]
    exact W.gp
  · show (if (H l).isNone = true then H' l else G l) = none
    rw [hl]
    exact W.gl
  · show (if (H b).isNone = true then H' b else G b) = some o
    rw [W.same _ _ q]
    exact q
  · show (if (H b).isNone = true then H' b else G b) = none
    rw [q]
    exact g
  · show (if (H b).isNone = true then H' b else G b) = some o
    unfold Nw at q
    split at q
    · rename_i e
      rw [if_pos e]
      exact q
    · cases q
abbrev Ch := Int × List Int × Int
/-- cells set one behind the other from b on -/
def linkP (cs : List (Int × Int)) (b : Int) (ds : List Int) : List (Int × Int) × Int := ds.foldl (fun s d => (putA s.1 s.2 d, d)) (cs, b)
theorem linkP_snoc (cs : List (Int × Int)) (b : Int) (ds : List Int) (d : Int) : linkP cs b (ds ++ [d]) = (putA (linkP cs b ds).1 (linkP cs b ds).2 d, d) := by
  unfold linkP
  rw [List.foldl_append]
  rfl
theorem linkP_len (cs : List (Int × Int)) (b : Int) : ∀ ds : List Int, (linkP cs b ds).1.length ≤ cs.length + ds.length := by
  intro ds
  suffices ∀ (ds : List Int) (s : List (Int × Int) × Int), (ds.foldl (fun s d => (putA s.1 s.2 d, d)) s).1.length ≤ s.1.length + ds.length from this ds (cs, b)
  intro ds
  induction ds with
  | nil => intro s; exact Nat.le_refl _
  | cons d ds ih =>
    intro s
    have h := ih (putA s.1 s.2 d, d)
    have h2 := putA_len s.1 s.2 d
    rw [List.foldl_cons, List.length_cons]
    exact Nat.le_trans h (by show (putA s.1 s.2 d).length + ds.length ≤ _; omega)
def linkF (cs : List (Int × Int)) (ch : Ch) : List (Int × Int) := putA (linkP cs ch.1 ch.2.1).1 (linkP cs ch.1 ch.2.1).2 ch.2.2
def cellsF (chs : List Ch) : List (Int × Int) := chs.foldl linkF []
theorem cellsF_snoc (chs : List Ch) (ch : Ch) : cellsF (chs ++ [ch]) = linkF (cellsF chs) ch := by
  unfold cellsF
  rw [List.foldl_append]
  rfl
abbrev pairS (q : Str × Int) : PyData := .tuple [.str q.1, .int q.2]
def rowsF (lots : List (List Str)) (vals : List Int) : List (Str × Int) := (lots.zip vals).flatMap fun q => q.1.map fun n => (n, q.2)
def storeF (c : Cs) (vals : List Int) : List (Str × Int) := (rowsF c.1 vals).mergeSort (PySem.W.dataLe false pairS)
def heapF (chs : List Ch) : List (Int × Int) := (cellsF chs).mergeSort (PySem.W.dataLe false pairI)
structure HeapF (most : Nat) (c : Cs) (vals : List Int) (chs : List Ch) : Prop where
  len : vals.length = c.1.length
  zero : vals[0]? = some 0
  chain : Paired (fun (ch : Ch) (a : Ar) => vals[a.1.toNat]? = some ch.1 ∧ vals[a.2.2.toNat]? = some ch.2.2 ∧ (a.2.1 ≠ "long" → ch.2.1 = []) ∧ ch.2.1.length < most) chs c.2
  nodup : (vals ++ chs.flatMap fun ch => ch.2.1).Nodup
  pos : ∀ x ∈ vals ++ chs.flatMap fun ch => ch.2.1, 0 ≤ x
def spHeap (K : PySem.W.Frag) : Sp := fun vs H Q _ => ∃ (p l : Addr) (G : Hp) (v : V) (ns : List Str) (c : Cs) (most : Nat), vs = [.ref p, v, .int (most : Int)] ∧ Wd p l G H ∧ Da K G v (caseD c) ∧ CaseOk ns c ∧ ns.length ≤ 8 ∧ 1 ≤ most ∧ most ≤ 10 ∧
  ∀ (r a b : Addr) (ps : List Addr) (vals : List Int) (chs : List Ch) (G' H' : Hp), Ext p l G H G' H' → SqT K G' r [.ref a, .ref b] → PlT G' a (ps.map V.ref) → (∃ qs : List Addr, PlT G' b (qs.map V.ref) ∧ DaAll K G' (qs.map V.ref) ((heapF chs).map pairI)) → DaAll K G' (ps.map V.ref) ((storeF c vals).map pairS) → Da K G' (.ref b) (.tuple ((heapF chs).map pairI)) → HeapF most c vals chs → Q (.ref r) H'
theorem pop_int {l : Addr} {H : Hp} {rest : List Int} {x : Int} {Q : VK} (h : H l = some (.lst ((rest ++ [x]).map V.int))) (k : Q (.int x) (upd H l (.lst (rest.map V.int)))) : rPop (.ref l) [] H Q := by
  refine ⟨l, _, .int x, rfl, rfl, h, ?_, ?_⟩
  · rw [List.map_append, List.length_append, List.length_map]
    show (rest.map V.int ++ [V.int x])[rest.length + 1 - 1]? = _
    rw [Nat.add_sub_cancel, List.getElem?_append_right (by rw [List.length_map]; exact Nat.le_refl _), List.length_map, Nat.sub_self]
    rfl
  · rw [List.map_append]
    show Q (V.int x) (upd H l (.lst (rest.map V.int ++ [V.int x]).dropLast))
    rw [List.dropLast_concat]
    exact k
theorem snoc_of {l : List Int} (h : 0 < l.length) : ∃ r x, l = r ++ [x] := ⟨l.dropLast, l.getLast (List.ne_nil_of_length_pos h), (List.dropLast_concat_getLast _).symm⟩
theorem da_ar {K : PySem.W.Frag} {G : Hp} {as : List V} {ars : List Ar} {i : Nat} {x : V} (h : DaAll K G as (ars.map arD)) (hx : as[i]? = some x) : ∃ a q, ars[i]? = some q ∧ x = .ref a ∧ SqT K G a [.int q.1, .str q.2.1, .int q.2.2] := by
  obtain ⟨d, e, da⟩ := h.get hx
  rw [List.getElem?_map] at e
  obtain ⟨q, e1, rfl⟩ := Option.map_eq_some_iff.mp e
  obtain ⟨a, xs, rfl, sq, da2⟩ := da.tupI
  cases da2 with
  | cons h1 t =>
    cases h1
    cases t with
    | cons h2 t =>
      cases h2
      cases t with
      | cons h3 t =>
        cases h3
        cases t
        exact ⟨a, q, e1, rfl, sq⟩
theorem at_nat {xs : List V} {i : Int} {x : V} (h0 : 0 ≤ i) (h : xs[i.toNat]? = some x) : atI xs i = some x := by
  have := (List.getElem?_eq_some_iff.mp h).1
  unfold atI ixN
  rw [if_pos h0, if_pos (by omega)]
  exact h
theorem refs_of {β : Type} {F : Addr → β → Prop} : ∀ {ys : List V} {bs : List β}, Paired (fun x b => ∃ t, x = V.ref t ∧ F t b) ys bs → ∃ ts : List Addr, ys = ts.map V.ref ∧ Paired F ts bs
  | _, _, .nil => ⟨[], rfl, .nil⟩
  | _, _, .cons ⟨t, e, h⟩ r => by
    obtain ⟨ts, e2, p⟩ := refs_of r
    subst e e2
    exact ⟨t :: ts, rfl, .cons h p⟩
theorem paired_append {α β : Type} {F : α → β → Prop} : ∀ {as cs : List α} {bs ds : List β}, Paired F as bs → Paired F cs ds → Paired F (as ++ cs) (bs ++ ds)
  | _, _, _, _, .nil, h => h
  | _, _, _, _, .cons r t, h => .cons r (paired_append t h)
theorem paired_map2 {α β δ : Type} {F : α → β → Prop} {G : α → δ → Prop} {g : β → δ} (h : ∀ a b, F a b → G a (g b)) : ∀ {as : List α} {bs : List β}, Paired F as bs → Paired G as (bs.map g)
  | _, _, .nil => .nil
  | _, _, .cons r t => .cons (h _ _ r) (paired_map2 h t)
theorem paired_in {α β : Type} {F G : α → β → Prop} : ∀ {as : List α} {bs : List β}, Paired F as bs → (∀ a b, a ∈ as → F a b → G a b) → Paired G as bs
  | _, _, .nil, _ => .nil
  | _, _, .cons r t, h => .cons (h _ _ List.mem_cons_self r) (paired_in t fun a b m => h a b (List.mem_cons_of_mem _ m))
theorem da_pairs {K : PySem.W.Frag} {G : Hp} {β : Type} {f : β → PyData} {g : β → List V} {h : β → List PyData} (e : ∀ b, f b = .tuple (h b)) (d : ∀ b, DaAll K G (g b) (h b)) : ∀ {ts : List Addr} {bs : List β}, Paired (fun t b => SqT K G t (g b)) ts bs → DaAll K G (ts.map V.ref) (bs.map f)
  | _, _, .nil => .nil
  | _, _, .cons (b := b) r t => by
    rw [List.map_cons, List.map_cons, e b]
    exact .cons (.tup r (d b)) (da_pairs e d t)
section
variable {P : Program} {w : World} {K : PySem.W.Frag} {mg : Str → Option Value} {base : Heap}
theorem D_l_heap (T : Txt K mg) : Df P w K mg base 3 "_law_heap" ["deck", "case", "most"] (spHeap K) := by
  have D_l_draw := D_draw (P := P) (w := w) (base := base) T
  have D_l_pick := D_pick (P := P) (w := w) (base := base) T
  have D_l_mixed := D_l_mixed (P := P) (w := w) (base := base) T
  obtain ⟨f, fd, S⟩ := T.d_l_heap
  refine Df.mk' (k := 2) S sc_l_heap (fun vs H Q E h => ?_) (fun cdv A outer s H vs Q E hgd hr h => ?_)
  · obtain ⟨p, l, G, v, ns, c, most, rfl, _⟩ := h
    rfl
  · obtain ⟨p, l, G, v, ns, c, most, rfl, W, da, ok, ln, m1, m10, k⟩ := h
    have hu := hu_of hr
    have big : (2000 : Nat) ≤ sizeLine := by decide
    refine ⟨_, (pss_cons (ps_par (i := 3) (j := 4) (by rfl) sc_l_heap.nd rfl rfl (by decide) rfl rfl (pa_cons (pe_ix ix_tup (pv 1) pe_int (fun _ _ => rfl)) (pa_cons pe_dnewK pa_nil)) (by rfl))
      (pss_cons (ps_set (i := 5) sc_l_heap.nd rfl (.inr rfl) (pe_d D_l_mixed hgd hr (pa_cons (pv 0) (pa_cons (pe_listRg rfl (by rfl) T.b_list (prg_2 (by rfl) T.b_range pe_int (pe_op op_add (pe_op op_add (pe_callB call_len_seq (by rfl) T.b_len (by decide +kernel) (pa_cons (pv 3) pa_nil)) (pe_op op_mul (pv 2) (pe_callB call_len_seq (by rfl) T.b_len (by decide +kernel) (pa_cons (pe_ix ix_tup (pv 1) pe_int (fun _ _ => rfl)) pa_nil)))) pe_int))) pa_nil))))
      (pss_cons (ps_set (i := 6) sc_l_heap.nd rfl (.inr rfl) (pe_d D_l_pick hgd hr (pa_cons (pv 0) (pa_cons (pe_lst (pa_cons pe_int (pa_cons pe_int (pa_cons pe_int (pa_cons (pe_op op_pow pe_int pe_int) pa_nil))))) pa_nil))))
      (pss_cons (ps_set (i := 7) sc_l_heap.nd rfl (.inr rfl) (pe_op op_cat (pe_lst (pa_cons pe_int pa_nil)) (pe_lc (X := (cxOf CX0 P w K mg base ["deck", "case", "most", "lots", "cells", "pool", "far", "values", "lot", "begin", "kind", "end", "here", "turn", "further", "store", "spot", "name"] "_law_heap" (defScope s_l_heap) f cdv A outer s H E).nox) (own := [("lot", 8)]) (g := gName 8) (tt := tYes) (te := tOp (rI CMul fun i j => .int (i * j)) (tBM0 K "list" rPop (tVar 5)) (tVar 6)) rfl sc_l_heap.nd (pi_tup (pe_slice sl_tupA (pv 3) (po_some pe_int) po_none)) (blkOk_by (own := [("lot", 8)]) (N := ["deck", "case", "most", "lots", "cells", "pool", "far", "values", "lot", "begin", "kind", "end", "here", "turn", "further", "store", "spot", "name"]) (sc := defScope s_l_heap) (by decide +kernel)) (fun _ _ _ _ _ => pg_name (i := 8) sc_l_heap.nd rfl (.inl rfl)) (fun _ _ _ _ _ => pts_nil) (fun _ _ _ _ _ => (pe_op op_mul (pe_bm0 PySem.F.plainAttrs_list PySem.F.slot_list_pop PySem.F.type_list_pop mt_pop (pv 5)) (pv 6))))))
      (pss_cons (ps_for PassesOwn.never rfl (pi_tup (pe_ix ix_tup (pv 1) pe_int (fun _ _ => rfl))) (pg_tup rfl (pgs_cons (pg_name (i := 9) sc_l_heap.nd rfl (.inl rfl)) (pgs_cons (pg_name (i := 10) sc_l_heap.nd rfl (.inl rfl)) (pgs_cons (pg_name (i := 11) sc_l_heap.nd rfl (.inl rfl)) pgs_nil))))
      (pss_cons (ps_set (i := 12) sc_l_heap.nd rfl (.inl rfl) (pe_ix ix_list (pv 7) (pv 9) (fun _ _ => rfl)))
      (pss_cons (ps_for PassesOwn.never rfl (pi_range1 rfl T.b_range (pa_cons (pe_ifExp (pt_cmpR op_eq (pv 10) pe_str (nomark _)) (pe_d D_l_draw hgd hr (pa_cons (pv 0) (pa_cons (pv 2) pa_nil))) pe_int) pa_nil)) (pg_name (i := 13) sc_l_heap.nd rfl (.inl rfl))
      (pss_cons (ps_set (i := 14) sc_l_heap.nd rfl (.inl rfl) (pe_op op_mul (pe_bm0 PySem.F.plainAttrs_list PySem.F.slot_list_pop PySem.F.type_list_pop mt_pop (pv 5)) (pv 6)))
      (pss_one (ps_asg (pe_tup (pa_cons (pv 14) (pa_cons (pv 14) pa_nil))) (pg_tup rfl (pgs_cons (pg_sub (pv 4) (pv 12) (set_dict hu)) (pgs_cons (pg_name (i := 12) sc_l_heap.nd rfl (.inl rfl)) pgs_nil)))))))
      (pss_one (ps_dput hu (pv 4) (pv 12) (pe_ix ix_list (pv 7) (pv 11) (fun _ _ => rfl)) rfl)))))
      (pss_cons (ps_set (i := 15) sc_l_heap.nd rfl (.inl rfl) (pe_lst pa_nil))
      (pss_cons (ps_for PassesOwn.never rfl (pi_enumT rfl T.b_enumerate (pa_cons (pv 3) pa_nil)) (pg_tup rfl (pgs_cons (pg_name (i := 16) sc_l_heap.nd rfl (.inr rfl)) (pgs_cons (pg_name (i := 8) sc_l_heap.nd rfl (.inl rfl)) pgs_nil)))
      (pss_one (ps_set (i := 15) sc_l_heap.nd rfl (.inl rfl) (pe_op op_cat (pv 15) (pe_lc (X := (cxOf CX0 P w K mg base ["deck", "case", "most", "lots", "cells", "pool", "far", "values", "lot", "begin", "kind", "end", "here", "turn", "further", "store", "spot", "name"] "_law_heap" (defScope s_l_heap) f cdv A outer s H E).nox) (own := [("name", 17)]) (g := gName 17) (tt := tYes) (te := tTup (tCons (tVar 17) (tCons (tOp (rIxL K) (tVar 7) (tVar 16)) tNil))) rfl sc_l_heap.nd (pi_tup (pv 8)) (blkOk_by (own := [("name", 17)]) (N := ["deck", "case", "most", "lots", "cells", "pool", "far", "values", "lot", "begin", "kind", "end", "here", "turn", "further", "store", "spot", "name"]) (sc := defScope s_l_heap) (by decide +kernel)) (fun _ _ _ _ _ => pg_name (i := 17) sc_l_heap.nd rfl (.inl rfl)) (fun _ _ _ _ _ => pts_nil) (fun _ _ _ _ _ => (pe_tup (pa_cons (pv 17) (pa_cons (pe_ix ix_list (pv 7) (pv 16) (fun _ _ => rfl)) pa_nil)))))))))
      (pss_one (ps_ret (pe_tup (pa_cons (pe_callTy call_tuple_ofP (by rfl) T.b_tuple (by decide +kernel) (pa_cons (pe_callB (cr_sortedT2 hr.units) (by rfl) T.b_sorted (by decide +kernel) (pa_cons (pv 15) pa_nil)) pa_nil)) (pa_cons (pe_callTy call_tuple_ofP (by rfl) T.b_tuple (by decide +kernel) (pa_cons (pe_callB (cr_sortedItI rfl hr.units) (by rfl) T.b_sorted (by decide +kernel) (pa_cons (pe_bm0 PySem.F.plainAttrs_dict PySem.F.slot_dict_items PySem.F.type_dict_items mt_itemsK (pv 4)) pa_nil)) pa_nil)) pa_nil)))))))))))), ?_⟩
    obtain ⟨va, b1, b2, ls, as, rfl, sva, sb1, dls, sb2, das⟩ := da_case da
    have ll : ls.length = c.1.length := by rw [dls.length, List.length_map]
    have la : as.length = c.2.length := by rw [das.length, List.length_map]
    have lp := ok.pos
    have l60 := ok.len
    have l40 := ok.alen
    refine ⟨_, rfl, va, _, 0, _, rfl, rfl, sameT W.same sva, rfl, fun cd hcd => ?_⟩
    refine ⟨_, _, rfl, ?_⟩
    dsimp only [gName, List.set]
    have e1 := W.tmp (o := .dK []) hcd
    have cp := W.np hcd
    have cl := W.nl hcd
    have c1 : (upd H cd (.dK [])) cd = some (.dK []) := upd_same
    have gc : G cd = none := W.same.free hcd
    have hmul : most * as.length ≤ 10 * 40 := Nat.mul_le_mul m10 (by omega)
    generalize hN : ls.length + most * as.length + 2 = N
    have hN2 : ((ls.length : Int) + (most : Int) * (as.length : Int) + 3) = (N : Int) + 1 := by
      rw [← hN, Int.natCast_add, Int.natCast_add, Int.natCast_mul]
      omega
    refine ⟨_, rfl, _, rfl, b1, ls, rfl, .inr (sameT e1.w.same sb1), _, rfl, _, rfl, va, _, 1, _, rfl, rfl, sameT e1.w.same sva, rfl, b2, as, rfl, .inr (sameT e1.w.same sb2), _, _, rfl, rfl, .inl ⟨by omega, by omega⟩, _, _, rfl, rfl, _, _, rfl, rfl, 1, _, rfl, rfl, RgOk.of_le (by omega) (by rw [hN2]; omega) (by omega) (by rw [hN2]; omega), fun q hq => ?_⟩
    rw [hN2, spL_rg, Int.toNat_natCast]
    have e2 := e1.trans W (e1.w.tmp (o := .lst ((spL N).map V.int)) hq)
    have q2 : (upd (upd H cd (.dK [])) q (.lst ((spL N).map V.int))) q = some (.lst ((spL N).map V.int)) := upd_same
    have c2 := sameAdd (o := .lst ((spL N).map V.int)) hq _ _ c1
    generalize upd (upd H cd (.dK [])) q (.lst ((spL N).map V.int)) = H2 at e2 q2 c2 ⊢
    refine ⟨p, l, G, q, (spL N).map (fun i => (V.int i, PyData.int i)), rfl, e2.w, .inl (SqL.of (by rw [List.map_map]; exact q2)), by rw [List.length_map, spL_len]; omega, fun z m => ?_, fun r ys G3 H3 e3 r3 r0 gr pm => ?_⟩
    · obtain ⟨i, _, rfl⟩ := List.mem_map.mp m
      exact ⟨.int i, rfl, by show PyData.depth (.int i) ≤ 20; simp [PyData.depth]⟩
    obtain ⟨is, rfl, pis⟩ := perm_map_inv (f := fun i => (V.int i, PyData.int i)) pm _ rfl
    rw [List.map_map] at r3
    have r3 : H3 r = some (.lst (is.map V.int)) := r3
    have c3 := e3.keep _ _ cp cl c2
    have g3 : G3 cd = none := e3.new _ _ c2 gc
    have k3 : ∀ b o, b ≠ p → b ≠ l → H b = some o → H3 b = some o := fun b o n1 n2 h => e3.keep b o n1 n2 (e2.keep b o n1 n2 h)
    have W3 := e3.w
    have s3 := e3.sub
    have rp := W3.np (a := r)
    have npr : r ≠ p := e2.w.np r0
    have nlr : r ≠ l := e2.w.nl r0
    have lis : is.length = N := by rw [pis.length_eq, spL_len]
    have nds : is.Nodup := pis.nodup_iff.mpr (by
      unfold spL
      exact List.pairwise_map.mpr (List.nodup_range.imp fun h e => h (by omega)))
    have pos : ∀ x ∈ is, 1 ≤ x ∧ x ≤ N := fun x m => spL_mem (pis.mem_iff.mp m)
    have hr0 : H r = none := by
      cases z : H r with
      | none => rfl
      | some o =>
        have := e2.keep _ _ npr nlr z
        rw [r0] at this
        cases this
    have ncr : cd ≠ r := fun e => by
      rw [e, r3] at c3
      cases c3
    clear rp e3 e2 e1 r0 c2 c1 q2 hq pm
    dsimp only [gName, List.set]
    -- far
    refine ⟨_, rfl, 10, 20, rfl, rfl, ⟨by decide, by decide, by decide⟩, by show 4 ≤ sizeLine; decide, fun fc hfc => ?_⟩
    have f1 := W3.tmp (o := .lst [V.int 1, V.int 1, V.int 7, V.int (10 ^ (20 : Int).toNat)]) hfc
    refine ⟨p, l, G3, fc, _, rfl, f1.w, upd_same, W3.np hfc, W3.nl hfc, by decide, by decide, fun xf H4 mx f2 => ?_⟩
    obtain ⟨far, rfl, far1⟩ : ∃ z : Int, xf = .int z ∧ 1 ≤ z := by
      rcases List.mem_cons.mp mx with rfl | mx
      · exact ⟨_, rfl, by decide⟩
      · rcases List.mem_cons.mp mx with rfl | mx
        · exact ⟨_, rfl, by decide⟩
        · rcases List.mem_cons.mp mx with rfl | mx
          · exact ⟨_, rfl, by decide⟩
          · rw [List.mem_singleton.mp mx]
            exact ⟨_, rfl, by decide⟩
    have f3 := f1.trans W3 f2
    have r4 := f3.keep _ _ npr nlr r3
    have c4 := f3.keep _ _ cp cl c3
    have k4 : ∀ b o, b ≠ p → b ≠ l → H b = some o → H4 b = some o := fun b o n1 n2 h => f3.keep b o n1 n2 (k3 b o n1 n2 h)
    have W4 := f3.w
    clear f3 f2 f1 hfc mx W3 k3 c3 r3
    dsimp only [gName, List.set]
    -- values
    refine ⟨by show 1 ≤ sizeLine; decide, fun v0 hv0 => ?_⟩
    have W5 := (W4.tmp (o := .lst [V.int 0]) hv0).w
    have r5 := sameAdd (o := .lst [V.int 0]) hv0 _ _ r4
    have c5 := sameAdd (o := .lst [V.int 0]) hv0 _ _ c4
    have k5 : ∀ b o, b ≠ p → b ≠ l → H b = some o → (upd H4 v0 (.lst [V.int 0])) b = some o := fun b o n1 n2 h => sameAdd hv0 _ _ (k4 b o n1 n2 h)
    have v5 : (upd H4 v0 (.lst [V.int 0])) v0 = some (.lst [V.int 0]) := upd_same
    generalize upd H4 v0 (.lst [V.int 0]) = H5 at W5 r5 c5 k5 v5 ⊢
    clear W4 r4 c4 k4 hv0 H4
    refine ⟨_, rfl, _, rfl, b1, ls, rfl, sameT (s3.trans W5.same) sb1, fun e => absurd e.1 ?_, fun _ p5 hp5 => ?_⟩
    · intro e0
      have := HT.sIx_nat ls.length 0 1
      rw [Nat.min_eq_left (by omega)] at this
      exact absurd (this.symm.trans e0) (by decide)
    rw [cut1 (by omega)]
    have W6 := (W5.tmp (o := .tup (ls.drop 1)) hp5).w
    have r6 := sameAdd (o := .tup (ls.drop 1)) hp5 _ _ r5
    have c6 := sameAdd (o := .tup (ls.drop 1)) hp5 _ _ c5
    have v6 := sameAdd (o := .tup (ls.drop 1)) hp5 _ _ v5
    have k6 : ∀ b o, b ≠ p → b ≠ l → H b = some o → (upd H5 p5 (.tup (ls.drop 1))) b = some o := fun b o n1 n2 h => sameAdd hp5 _ _ (k5 b o n1 n2 h)
    have t6 : (upd H5 p5 (.tup (ls.drop 1))) p5 = some (.tup (ls.drop 1)) := upd_same
    generalize upd H5 p5 (.tup (ls.drop 1)) = H6 at W6 r6 c6 v6 k6 t6 ⊢
    clear W5 r5 c5 v5 k5 hp5 H5
    have ne_r : ∀ {Hx : Hp} {b : Addr} {o : HO} {zs : List V}, Hx r = some (.lst zs) → Hx b = some o → (∀ ys, o ≠ .lst ys) → b ≠ r := fun h1 h2 h3 e => by
      rw [e, h1] at h2
      exact h3 _ (Option.some.inj h2).symm
    have nvr : v0 ≠ r := fun e => by
      rw [e, r6] at v6
      injection v6 with v6
      injection v6 with v6
      have := congrArg List.length v6
      rw [List.length_map] at this
      simp at this
      omega
    refine ⟨p5, rfl, ⟨_, SqT.of t6⟩, fun D hD => lc_tup (K := K) (a := p5) (xs := ls.drop 1) (fun i Hx => Wd p l G3 Hx ∧ Hx cd = some (.dK []) ∧ (∀ b o, b ≠ p → b ≠ l → H b = some o → Hx b = some o) ∧ Hx v0 = some (.lst [V.int 0]) ∧ Hx p5 = some (.tup (ls.drop 1)) ∧
        ∃ rest got : List Int, is = rest ++ got.reverse ∧ got.length = i ∧ Hx r = some (.lst (rest.map V.int)) ∧ Hx D = some (.lst ((got.map (· * far)).map V.int)))
      ⟨(W6.tmp hD).w, sameAdd hD _ _ c6, fun b o n1 n2 h => sameAdd hD _ _ (k6 b o n1 n2 h), sameAdd hD _ _ v6, sameAdd hD _ _ t6, is, [], by simp, rfl, sameAdd hD _ _ r6, upd_same⟩ (fun i Hx _ h => SqT.of h.2.2.2.2.1) ?_ ?_⟩
    · rintro i x Hx hx ⟨Wx, cx, kx, vx, tx, rest, got, eis, lg, rx, dx⟩
      have hi := (List.getElem?_eq_some_iff.mp hx).1
      rw [List.length_drop] at hi
      have lr : 0 < rest.length := by
        have := congrArg List.length eis
        rw [List.length_append, List.length_reverse] at this
        omega
      obtain ⟨rest, y, rfl⟩ := snoc_of lr
      have yin : y ∈ is := by
        rw [eis]
        simp
      have := pos y yin
      have nDr : D ≠ r := fun e => by rw [e, r6] at hD; cases hD
      have nDp := W6.np hD
      have nDl := W6.nl hD
      have gD : G3 D = none := W6.same.free hD
      have nDc : D ≠ cd := fun e => by rw [e, c6] at hD; cases hD
      have nDv : D ≠ v0 := fun e => by rw [e, v6] at hD; cases hD
      have nDt : D ≠ p5 := fun e => by rw [e, t6] at hD; cases hD
      have ntr := ne_r rx tx (by intro ys z; cases z)
      refine ⟨rfl, _, rfl, .inl ⟨rfl, _, SqL.of rx⟩, pop_int rx ⟨_, rfl, _, _, rfl, rfl, .inl ⟨by omega, by omega⟩, _, by rw [upd_ne nDr]; exact dx, by rw [List.length_map, List.length_map]; omega, ?_⟩⟩
      refine ⟨(Wx.own npr nlr gr).own nDp nDl gD, by rw [upd_ne nDc.symm, upd_ne ncr]; exact cx, fun b o n1 n2 h => ?_, by rw [upd_ne nDv.symm, upd_ne nvr]; exact vx, by rw [upd_ne nDt.symm, upd_ne ntr]; exact tx, rest, got ++ [y], ?_, by rw [List.length_append, lg]; rfl, by rw [upd_ne nDr.symm, upd_same], ?_⟩
      · by_cases b1 : b = D
        · rw [b1] at h
          have := k6 _ _ nDp nDl h
          rw [hD] at this
          cases this
        · rw [upd_ne b1, upd_ne (ne_of_none h hr0)]
          exact kx b o n1 n2 h
      · rw [eis]
        simp
      · rw [upd_same, List.map_append, List.map_append]
        rfl
    · rintro Hx ⟨Wx, cx, kx, vx, tx, rest, got, eis, lg, rx, dx⟩
      rw [List.length_drop] at lg
      have nDp := W6.np hD
      have nDl := W6.nl hD
      have hD0 : H D = none := by
        cases z : H D with
        | none => rfl
        | some o =>
          have := k6 _ _ nDp nDl z
          rw [hD] at this
          cases this
      have nDr : D ≠ r := fun e => by rw [e, r6] at hD; cases hD
      have gD : G3 D = none := W6.same.free hD
      clear W6 r6 c6 v6 k6 t6 hD tx
      refine ⟨v0, D, _, _, rfl, rfl, vx, dx, by simp only [List.length_map, List.length_cons, List.length_nil]; omega, fun vl hvl => ?_⟩
      have ev : [V.int 0] ++ (got.map (· * far)).map V.int = (0 :: got.map (· * far)).map V.int := rfl
      rw [ev]
      have lv : (0 :: got.map (· * far)).length = c.1.length := by rw [List.length_cons, List.length_map, lg]; omega
      have W7 := (Wx.tmp (o := .lst ((0 :: got.map (· * far)).map V.int)) hvl).w
      have r7 := sameAdd (o := .lst ((0 :: got.map (· * far)).map V.int)) hvl _ _ rx
      have c7 := sameAdd (o := .lst ((0 :: got.map (· * far)).map V.int)) hvl _ _ cx
      have k7 : ∀ b o, b ≠ p → b ≠ l → H b = some o → (upd Hx vl (.lst ((0 :: got.map (· * far)).map V.int))) b = some o := fun b o n1 n2 h => sameAdd hvl _ _ (kx b o n1 n2 h)
      have v7 : (upd Hx vl (.lst ((0 :: got.map (· * far)).map V.int))) vl = some (.lst ((0 :: got.map (· * far)).map V.int)) := upd_same
      have nvlp := Wx.np hvl
      have nvll := Wx.nl hvl
      have nvlr : vl ≠ r := fun e => by rw [e, rx] at hvl; cases hvl
      have nvlc : vl ≠ cd := fun e => by rw [e, cx] at hvl; cases hvl
      generalize upd Hx vl (.lst ((0 :: got.map (· * far)).map V.int)) = H7 at W7 r7 c7 k7 v7 ⊢
      clear Wx rx cx kx vx dx hvl nDp nDl nDr gD hD0 nvr ne_r
      generalize hvals : (0 :: got.map (· * far)) = vals at lv v7
      dsimp only [gName, List.set]
      -- the arrows
      refine ⟨_, rfl, va, _, 1, _, rfl, rfl, sameT (s3.trans W7.same) sva, rfl, b2, rfl, ⟨_, sameT (s3.trans W7.same) sb2⟩, for_tup (K := K) (a := b2) (xs := as) (fun j σ Hx => ∃ o8 o9 o10 o11 o12 o13 o14 : Option V, σ = [some (.ref p), some (.ref va), some (.int (most : Int)), some (.ref b1), some (.ref cd), some (.ref r), some (.int far), some (.ref vl), o8, o9, o10, o11, o12, o13, o14, none, none, none] ∧
          Wd p l G3 Hx ∧ (∀ b o, b ≠ p → b ≠ l → H b = some o → Hx b = some o) ∧ Hx vl = some (.lst (vals.map V.int)) ∧ ∃ (rest more : List Int) (chs : List Ch), is = rest ++ (got ++ more).reverse ∧ Hx r = some (.lst (rest.map V.int)) ∧ (chs.flatMap fun ch => ch.2.1) = more.map (· * far) ∧
          Paired (fun (ch : Ch) (a : Ar) => vals[a.1.toNat]? = some ch.1 ∧ vals[a.2.2.toNat]? = some ch.2.2 ∧ (a.2.1 ≠ "long" → ch.2.1 = []) ∧ ch.2.1.length < most) chs (c.2.take j) ∧ Hx cd = some (.dK (kvK Sum.inl V.int (cellsF chs))) ∧ more.length ≤ j * most ∧ (cellsF chs).length ≤ j * most)
        ⟨_, _, _, _, _, _, _, rfl, W7, k7, v7, rest, [], [], by rw [List.append_nil]; exact eis, r7, rfl, .nil, c7, by simp, by show 0 ≤ _; omega⟩ (fun j σ Hx _ ⟨_, _, _, _, _, _, _, _, Wx, _⟩ => sameT (s3.trans Wx.same) sb2) ?_ ?_⟩
      · rintro j x σ Hx hx ⟨o8, o9, o10, o11, o12, o13, o14, rfl, Wx, kx, vx, rest, more, chs, eis, rx, ech, pch, cx, lmore, lcs⟩
        obtain ⟨ta, qa, hqa, rfl, sqa⟩ := da_ar das hx
        have jlt := (List.getElem?_eq_some_iff.mp hx).1
        have ar := ok.ar qa (List.mem_of_getElem? hqa)
        have jm : j * most + most ≤ most * as.length := by
          have h1 : (j + 1) * most ≤ as.length * most := Nat.mul_le_mul_right most jlt
          rw [Nat.add_mul, Nat.one_mul, Nat.mul_comm as.length most] at h1
          exact h1
        have lis2 : rest.length + got.length + more.length = N := by
          rw [← lis, eis, List.length_append, List.length_reverse, List.length_append]
          omega
        obtain ⟨hb, ehb⟩ : ∃ hb, vals[qa.1.toNat]? = some hb := ⟨vals[qa.1.toNat]'(by omega), List.getElem?_eq_getElem (by omega)⟩
        obtain ⟨ve, eve⟩ : ∃ ve, vals[qa.2.2.toNat]? = some ve := ⟨vals[qa.2.2.toNat]'(by omega), List.getElem?_eq_getElem (by omega)⟩
        dsimp only [gName, List.set]
        refine ⟨ta, _, rfl, sameT (s3.trans Wx.same) sqa, rfl, _, _, rfl, _, _, rfl, _, _, rfl, rfl, ?_⟩
        dsimp only [gName, List.set]
        refine ⟨_, rfl, _, rfl, vl, _, qa.1, V.int hb, rfl, rfl, SqL.of vx, at_nat ar.1 (by rw [List.getElem?_map, ehb]; rfl), ?_⟩
        dsimp only [gName, List.set]
        refine for_rng (I := fun m Hy => m < most ∧ (qa.2.1 ≠ "long" → m = 0) ∧ Ext p l G3 Hx G3 Hy) (fun Qn fin => ?_) ?_
        · refine ⟨_, rfl, rfl, _, rfl, ?_⟩
          by_cases e : qa.2.1 = "long"
          · rw [decide_eq_true (show V.str qa.2.1 = V.str "long" by rw [e])]
            refine if_yes rfl ⟨_, rfl, _, rfl, p, l, G3, most, rfl, by omega, by omega, Wx, fun d Hy d0 d1 ed => ?_⟩
            have := fin d.toNat Hy ⟨by omega, fun z => absurd e z, ed⟩
            rw [Int.toNat_of_nonneg d0] at this
            exact this
          · rw [decide_eq_false (show ¬ V.str qa.2.1 = V.str "long" from fun z => e (V.str.inj z))]
            exact if_no rfl (fin 0 Hx ⟨by omega, fun _ => rfl, Ext.refl Wx⟩)
        · rintro m Hy ⟨lm, m0, ey⟩
          have vy := ey.keep _ _ nvlp nvll vx
          have ry := ey.keep _ _ npr nlr rx
          have cy := ey.keep _ _ cp cl cx
          have ky : ∀ b o, b ≠ p → b ≠ l → H b = some o → Hy b = some o := fun b o n1 n2 h => ey.keep b o n1 n2 (kx b o n1 n2 h)
          have Wy := ey.w
          clear ey vx rx cx kx Wx
          refine ⟨(m : Int), rfl, by omega, by omega, for_range (lo := 0) (n := ((m : Nat) : Int).toNat) (fun i σ Hz => ∃ (hc : Int) (o13 o14 : Option V), σ = [some (.ref p), some (.ref va), some (.int (most : Int)), some (.ref b1), some (.ref cd), some (.ref r), some (.int far), some (.ref vl), o8, some (.int qa.1), some (.str qa.2.1), some (.int qa.2.2), some (.int hc), o13, o14, none, none, none] ∧
              Wd p l G3 Hz ∧ (∀ b o, b ≠ p → b ≠ l → H b = some o → Hz b = some o) ∧ Hz vl = some (.lst (vals.map V.int)) ∧ ∃ rest2 raw : List Int, is = rest2 ++ (got ++ (more ++ raw)).reverse ∧ raw.length = i ∧ Hz r = some (.lst (rest2.map V.int)) ∧
              Hz cd = some (.dK (kvK Sum.inl V.int (linkP (cellsF chs) hb (raw.map (· * far))).1)) ∧ hc = (linkP (cellsF chs) hb (raw.map (· * far))).2)
            ⟨_, _, _, rfl, Wy, ky, vy, rest, [], by rw [List.append_nil]; exact eis, rfl, ry, cy, rfl⟩ ?_ ?_⟩
          · clear Wy ky vy ry cy
            rintro i σ Hz hi ⟨hc, o13, o14, rfl, Wz, kz, vz, rest2, raw, eis2, lraw, rz, cz, rfl⟩
            rw [Int.toNat_natCast] at hi
            have lis3 : rest2.length + got.length + more.length + raw.length = N := by
              rw [← lis, eis2, List.length_append, List.length_reverse, List.length_append, List.length_append]
              omega
            obtain ⟨rest2, y, rfl⟩ := snoc_of (l := rest2) (by omega)
            have := pos y (by rw [eis2]; simp)
            have lpk := linkP_len (cellsF chs) hb (raw.map (· * far))
            rw [List.length_map] at lpk
            dsimp only [gName, List.set]
            refine ⟨_, rfl, .inl ⟨rfl, _, SqL.of rz⟩, pop_int rz ⟨_, rfl, _, _, rfl, rfl, .inl ⟨by omega, by omega⟩, ?_⟩⟩
            have Wa := Wz.own (o := .lst (rest2.map V.int)) npr nlr gr
            have ra : (upd Hz r (.lst (rest2.map V.int))) r = some (.lst (rest2.map V.int)) := upd_same
            have ca : (upd Hz r (.lst (rest2.map V.int))) cd = some (.dK (kvK Sum.inl V.int (linkP (cellsF chs) hb (raw.map (· * far))).1)) := by rw [upd_ne ncr]; exact cz
            have vya : (upd Hz r (.lst (rest2.map V.int))) vl = some (.lst (vals.map V.int)) := by rw [upd_ne nvlr]; exact vz
            have ka : ∀ b o, b ≠ p → b ≠ l → H b = some o → (upd Hz r (.lst (rest2.map V.int))) b = some o := fun b o n1 n2 h => by rw [upd_ne (ne_of_none h hr0)]; exact kz b o n1 n2 h
            generalize upd Hz r (.lst (rest2.map V.int)) = Ha at Wa ra ca vya ka ⊢
            dsimp only [gName, List.set]
            refine ⟨_, rfl, _, rfl, by show 2 ≤ sizeLine; decide, fun t ht => ?_⟩
            have Wb := (Wa.tmp (o := .tup [V.int (y * far), V.int (y * far)]) ht).w
            have rb := sameAdd (o := .tup [V.int (y * far), V.int (y * far)]) ht _ _ ra
            have cb := sameAdd (o := .tup [V.int (y * far), V.int (y * far)]) ht _ _ ca
            have vb := sameAdd (o := .tup [V.int (y * far), V.int (y * far)]) ht _ _ vya
            have kb : ∀ b o, b ≠ p → b ≠ l → H b = some o → (upd Ha t (.tup [V.int (y * far), V.int (y * far)])) b = some o := fun b o n1 n2 h => sameAdd ht _ _ (ka b o n1 n2 h)
            refine ⟨t, _, rfl, SqT.of upd_same, rfl, _, _, rfl, _, rfl, _, rfl, cd, _, rfl, dputI (f := V.int) cb _ (y * far) (by omega), _, _, rfl, rfl, ?_⟩
            dsimp only [gName, List.set]
            have eM : (raw ++ [y]).map (· * far) = raw.map (· * far) ++ [y * far] := by rw [List.map_append]; rfl
            refine ⟨_, _, _, rfl, Wb.own cp cl g3, fun b o n1 n2 h => by rw [upd_ne (ne_of_none h hcd)]; exact kb b o n1 n2 h, by rw [upd_ne nvlc]; exact vb, rest2, raw ++ [y], by rw [eis2]; simp, by rw [List.length_append, lraw]; rfl, by rw [upd_ne ncr.symm]; exact rb, ?_, ?_⟩
            · rw [upd_same, eM, linkP_snoc]
            · rw [eM, linkP_snoc]
          · clear Wy ky vy ry cy
            rintro σ Hz ⟨hc, o13, o14, rfl, Wz, kz, vz, rest2, raw, eis2, lraw, rz, cz, rfl⟩
            rw [Int.toNat_natCast] at lraw
            have lpk := linkP_len (cellsF chs) hb (raw.map (· * far))
            rw [List.length_map] at lpk
            dsimp only [gName, List.set]
            refine ⟨_, rfl, _, rfl, vl, _, qa.2.2, V.int ve, rfl, rfl, SqL.of vz, at_nat ar.2.2.2.1 (by rw [List.getElem?_map, eve]; rfl), _, rfl, _, rfl, cd, _, rfl, dputI (f := V.int) cz _ ve (by omega), ?_⟩
            have ecs : cellsF (chs ++ [(hb, raw.map (· * far), ve)]) = putA (linkP (cellsF chs) hb (raw.map (· * far))).1 (linkP (cellsF chs) hb (raw.map (· * far))).2 ve := by
              rw [cellsF_snoc]
              rfl
            have tk : c.2.take (j + 1) = c.2.take j ++ [qa] := by rw [List.take_add_one, hqa]; rfl
            refine ⟨_, _, _, _, _, _, _, rfl, Wz.own cp cl g3, fun b o n1 n2 h => by rw [upd_ne (ne_of_none h hcd)]; exact kz b o n1 n2 h, by rw [upd_ne nvlc]; exact vz, rest2, more ++ raw, chs ++ [(hb, raw.map (· * far), ve)], eis2, by rw [upd_ne ncr.symm]; exact rz, ?_, ?_, ?_, ?_, ?_⟩
            · rw [List.flatMap_append, ech, List.map_append]
              simp
            · rw [tk]
              refine paired_snoc pch ⟨ehb, eve, fun z => ?_, by show (raw.map (· * far)).length < most; rw [List.length_map]; omega⟩
              have r0 : raw = [] := List.length_eq_zero_iff.mp (by rw [lraw]; exact m0 z)
              rw [r0]
              rfl
            · rw [upd_same, ecs]
            · rw [List.length_append, Nat.add_mul]
              omega
            · rw [ecs, Nat.add_mul]
              have := putA_len (linkP (cellsF chs) hb (raw.map (· * far))).1 (linkP (cellsF chs) hb (raw.map (· * far))).2 ve
              omega
      · rintro σ Hx ⟨o8, o9, o10, o11, o12, o13, o14, rfl, Wx, kx, vx, rest, more, chs, eis, rx, ech, pch, cx, lmore, lcs⟩
        have hlv : vals[0]? = some 0 := by rw [← hvals]; rfl
        have hfin : HeapF most c vals chs := by
          rw [la, List.take_length] at pch
          refine ⟨lv, hlv, pch, ?_, ?_⟩
          · rw [ech, ← hvals, List.cons_append, ← List.map_append]
            have nd2 : (got ++ more).Nodup := by
              have h := nds
              rw [eis] at h
              exact (List.reverse_perm _).nodup_iff.mp (List.nodup_append.mp h).2.1
            refine List.nodup_cons.mpr ⟨fun m => ?_, ?_⟩
            · obtain ⟨x, mx, e⟩ := List.mem_map.mp m
              have := pos x (by rw [eis]; simp only [List.mem_append, List.mem_reverse]; exact .inr (List.mem_append.mp mx))
              have := Int.mul_pos (show 0 < x by omega) (show 0 < far by omega)
              omega
            · exact List.pairwise_map.mpr (nd2.imp fun h e => h (Int.eq_of_mul_eq_mul_right (by omega) e))
          · intro x m
            rw [ech, ← hvals, List.cons_append, ← List.map_append] at m
            rcases List.mem_cons.mp m with rfl | m
            · exact Int.le_refl _
            · obtain ⟨y, my, rfl⟩ := List.mem_map.mp m
              have := pos y (by rw [eis]; simp only [List.mem_append, List.mem_reverse]; exact .inr (List.mem_append.mp my))
              exact Int.mul_nonneg (by omega) (by omega)
        clear pch ech lmore lcs rx eis hlv v7 k7 W7 c7 r7
        have lotle : ∀ l ∈ c.1, l.length ≤ 8 := fun l m => by
          have := (List.sublist_flatten_of_mem m).length_le
          have := ok.perm.length_eq
          omega
        have free0 : ∀ {Hy : Hp} {t : Addr}, Same Hx Hy → Hy t = none → H t = none := fun {Hy t} sy h => by
          cases z : H t with
          | none => rfl
          | some o =>
            have n1 : t ≠ p := (Wx.still sy).w.np h
            have n2 : t ≠ l := (Wx.still sy).w.nl h
            have := sy _ _ (kx _ _ n1 n2 z)
            rw [h] at this
            cases this
        refine ⟨Nat.zero_le _, fun st hst => ?_⟩
        dsimp only [gName, List.set]
        refine ⟨_, rfl, b1, ls, rfl, sameT ((s3.trans Wx.same).trans (sameAdd hst)) sb1, for_enumT (K := K) (a := b1) (xs := ls) (fun i σ Hy => ∃ (o8 o16 : Option V) (st : Addr), σ = [some (.ref p), some (.ref va), some (.int (most : Int)), some (.ref b1), some (.ref cd), some (.ref r), some (.int far), some (.ref vl), o8, o9, o10, o11, o12, o13, o14, some (.ref st), o16, none] ∧
            Same Hx Hy ∧ ∃ ts : List Addr, Hy st = some (.lst (ts.map V.ref)) ∧ ts.length ≤ i * 8 ∧ Paired (fun (t : Addr) (q : Str × Int) => NT H Hy t [.str q.1, .int q.2]) ts (((c.1.zip vals).take i).flatMap fun q => q.1.map fun n => (n, q.2)))
          ⟨o8, none, st, rfl, sameAdd hst, [], upd_same, Nat.zero_le _, .nil⟩ (fun i σ Hy _ ⟨_, _, _, _, sy, _⟩ => sameT ((s3.trans Wx.same).trans sy) sb1) ?_ ?_⟩
        · clear hst st
          rintro i x T' σ Hy hx ⟨o8, o16, st, rfl, sy, ts, hst, lts, pts⟩ hT
          obtain ⟨b, l, hl, rfl, sb⟩ := da_lot dls hx
          have ilt := (List.getElem?_eq_some_iff.mp hl).1
          obtain ⟨v, hv⟩ : ∃ v, vals[i]? = some v := ⟨vals[i]'(by omega), List.getElem?_eq_getElem (by omega)⟩
          have l8 := lotle l (List.mem_of_getElem? hl)
          have tk : (c.1.zip vals).take (i + 1) = (c.1.zip vals).take i ++ [(l, v)] := by
            rw [List.take_add_one, List.getElem?_zip_eq_some.mpr (show c.1[i]? = some (l, v).1 ∧ vals[i]? = some (l, v).2 from ⟨hl, hv⟩)]
            rfl
          dsimp only [gName, List.set]
          refine ⟨T', _, rfl, SqT.of upd_same, rfl, _, _, rfl, _, _, rfl, rfl, ?_⟩
          dsimp only [gName, List.set]
          have s1 := sy.trans (sameAdd (o := .tup [V.int i, V.ref b]) hT)
          have hst1 := sameAdd (o := .tup [V.int i, V.ref b]) hT _ _ hst
          have pts1 := paired_mpL pts fun t q h => h.same (sameAdd (o := .tup [V.int i, V.ref b]) hT)
          generalize upd Hy T' (.tup [V.int i, V.ref b]) = Hz at s1 hst1 pts1 ⊢
          clear hst pts sy hT Hy
          refine ⟨_, rfl, _, rfl, b, rfl, ⟨_, sameT ((s3.trans Wx.same).trans s1) sb⟩, fun D hD => lc_tup (K := K) (a := b) (xs := l.map V.str) (fun j Ha => Same Hz Ha ∧ ∃ us : List Addr, Ha D = some (.lst (us.map V.ref)) ∧ us.length = j ∧ Paired (fun (t : Addr) (n : Str) => NT H Ha t [.str n, .int v]) us (l.take j))
            ⟨sameAdd hD, [], upd_same, rfl, .nil⟩ (fun j Ha _ h => sameT (((s3.trans Wx.same).trans s1).trans h.1) sb) ?_ ?_⟩
          · rintro j x Ha hx ⟨sa, us, hDa, lus, pus⟩
            obtain ⟨n, hn, rfl⟩ : ∃ n, l[j]? = some n ∧ x = V.str n := by
              rw [List.getElem?_map] at hx
              obtain ⟨n, e, q⟩ := Option.map_eq_some_iff.mp hx
              exact ⟨n, e, q.symm⟩
            have jl := (List.getElem?_eq_some_iff.mp hn).1
            have tkj : l.take (j + 1) = l.take j ++ [n] := by rw [List.take_add_one, hn]; rfl
            refine ⟨rfl, _, rfl, _, rfl, _, rfl, vl, _, (i : Int), V.int v, rfl, rfl, SqL.of (((s1.trans sa)) _ _ vx), at_nat (by omega) (by rw [Int.toNat_natCast, List.getElem?_map, hv]; rfl), by show 2 ≤ sizeLine; decide, fun t ht => ?_⟩
            have nDt : D ≠ t := fun e => by rw [← e, hDa] at ht; cases ht
            refine ⟨us.map V.ref, by rw [upd_ne nDt]; exact hDa, by rw [List.length_map]; omega, sameOut (sa.trans (sameAdd ht)) hD, us ++ [t], by rw [upd_same, List.map_append]; rfl, by rw [List.length_append, lus]; rfl, ?_⟩
            rw [tkj]
            refine paired_snoc (paired_mpL pus fun u n h => ?_) ⟨free0 (s1.trans sa) ht, by rw [upd_ne nDt.symm, upd_same]⟩
            have h2 := h.same (sameAdd (o := .tup [V.str n, V.int v]) ht)
            refine ⟨h.1, ?_⟩
            rw [upd_ne (show u ≠ D from fun e => by rw [e] at h; rw [h.2] at hDa; cases hDa)]
            exact sameAdd ht _ _ h.2
          · rintro Ha ⟨sa, us, hDa, lus, pus⟩
            rw [List.length_map] at lus pus
            rw [List.take_length] at pus
            refine ⟨st, D, _, _, rfl, rfl, sa _ _ hst1, hDa, by rw [List.length_map, List.length_map]; omega, fun st2 hst2 => ?_⟩
            dsimp only [gName, List.set]
            refine ⟨_, _, st2, rfl, (s1.trans sa).trans (sameAdd hst2), ts ++ us, by rw [upd_same, List.map_append], by rw [List.length_append]; omega, ?_⟩
            rw [tk, List.flatMap_append]
            refine paired_append (paired_mpL pts1 fun t q h => (h.same sa).same (sameAdd hst2)) ?_
            have := paired_map2 (g := fun n => (n, v)) (G := fun (t : Addr) (q : Str × Int) => NT H (upd Ha st2 (.lst (ts.map V.ref ++ us.map V.ref))) t [.str q.1, .int q.2]) (fun t n h => h.same (sameAdd hst2)) pus
            simpa using this
        · rintro σ Hy ⟨o8, o16, st, rfl, sy, ts, hst, lts, pts⟩
          have tkall : (c.1.zip vals).take ls.length = c.1.zip vals := List.take_of_length_le (by rw [List.length_zip]; omega)
          rw [tkall] at pts
          have pts : Paired (fun (t : Addr) (q : Str × Int) => NT H Hy t [.str q.1, .int q.2]) ts (rowsF c.1 vals) := pts
          have Wy := (Wx.still sy).w
          have ky : ∀ b o, b ≠ p → b ≠ l → H b = some o → Hy b = some o := fun b o n1 n2 h => sy _ _ (kx b o n1 n2 h)
          have cy := sy _ _ cx
          have fy : ∀ {Ha : Hp} {t : Addr}, Same Hy Ha → Ha t = none → H t = none := fun sa h => free0 (sy.trans sa) h
          clear free0 kx vx cx Wx
          refine ⟨_, rfl, st, ts.map V.ref, Str × Int, rowsF c.1 vals, pairS, fun x q => ∃ t, x = V.ref t ∧ NT H Hy t [.str q.1, .int q.2], rfl, SqL.of hst, fun x m => ?_, ?_, ?_, ?_, ?_, ?_, fun ys p2 py pr hp2 => ?_⟩
          · obtain ⟨t, _, rfl⟩ := List.mem_map.mp m
            exact ⟨t, rfl⟩
          · exact paired_map1 (fun t q h => ⟨t, rfl, h⟩) pts
          · exact paired_map1 (fun t q h => .tup h.sq (.cons (.str _) (.cons (.int _) .nil))) pts
          · intro b b'
            simp [PySem.W.alike, PySem.W.alikeAll]
          · exact fun b => ⟨_, _, rfl⟩
          · intro b _
            simp only [PyData.depth, PyData.depthAll]
            omega
          · obtain ⟨us, rfl, pus⟩ := refs_of pr
            have sa : Same Hy (upd Hy p2 (.lst (us.map V.ref))) := sameAdd hp2
            have p2a : (upd Hy p2 (.lst (us.map V.ref))) p2 = some (.lst (us.map V.ref)) := upd_same
            generalize upd Hy p2 (.lst (us.map V.ref)) = Ha at sa p2a ⊢
            refine ⟨p2, _, rfl, SqL.of p2a, fun a0 o ho ha0 => ?_⟩
            have sb := sa.trans (sameAdd (o := .frz o (.tup (us.map V.ref))) ha0)
            have a0b : (upd Ha a0 (.frz o (.tup (us.map V.ref)))) a0 = some (.frz o (.tup (us.map V.ref))) := upd_same
            have fa0 : H a0 = none := fy sa ha0
            generalize upd Ha a0 (.frz o (.tup (us.map V.ref))) = Hb at sb a0b ⊢
            have cb := sb _ _ cy
            refine ⟨_, rfl, .inr (.inr (.inl ⟨rfl, .inl ⟨_, cb⟩⟩)), cd, _, rfl, rfl, cb, fun iv hiv => ?_⟩
            have s4 := sb.trans (sameAdd (o := DX.itemsO iv cd) hiv)
            have a0d := sameAdd (o := DX.itemsO iv cd) hiv _ _ a0b
            have ivd : (upd Hb iv (DX.itemsO iv cd)) iv = some (DX.itemsO iv cd) := upd_same
            have cdd := sameAdd (o := DX.itemsO iv cd) hiv _ _ cb
            generalize upd Hb iv (DX.itemsO iv cd) = Hd at s4 a0d ivd cdd ⊢
            refine ⟨iv, cd, cellsF chs, rfl, ivd, cdd, fun He lz tz se hlz le ptz ntz => ?_⟩
            have s5 : Same Hy He := s4.trans se
            have a0e := se _ _ a0d
            have ntz2 : Paired (fun (t : Addr) (q : Int × Int) => NT H He t [.int q.1, .int q.2]) tz (heapF chs) := paired_in ptz fun t q m h => ⟨fy s4 (ntz t m), h⟩
            clear ptz ntz cdd ivd cb se
            refine ⟨lz, _, rfl, SqL.of le, fun b0 ob hob hb0 => ⟨by show 2 ≤ sizeLine; decide, fun rr hrr => ?_⟩⟩
            have sf := (s5.trans (sameAdd (o := .frz ob (.tup (tz.map V.ref))) hb0)).trans (sameAdd (o := .tup [V.ref a0, V.ref b0]) hrr)
            have a0f := sameAdd (o := .tup [V.ref a0, V.ref b0]) hrr _ _ (sameAdd (o := .frz ob (.tup (tz.map V.ref))) hb0 _ _ a0e)
            have b0f : (upd (upd He b0 (.frz ob (.tup (tz.map V.ref)))) rr (.tup [V.ref a0, V.ref b0])) b0 = some (.frz ob (.tup (tz.map V.ref))) := sameAdd hrr _ _ upd_same
            have rrf : (upd (upd He b0 (.frz ob (.tup (tz.map V.ref)))) rr (.tup [V.ref a0, V.ref b0])) rr = some (.tup [V.ref a0, V.ref b0]) := upd_same
            have nf := paired_mpL ntz2 fun t q h => (h.same (sameAdd (o := .frz ob (.tup (tz.map V.ref))) hb0)).same (sameAdd (o := .tup [V.ref a0, V.ref b0]) hrr)
            have fb0 : H b0 = none := fy s5 hb0
            have frr : H rr = none := fy (s5.trans (sameAdd (o := .frz ob (.tup (tz.map V.ref))) hb0)) hrr
            generalize upd (upd He b0 (.frz ob (.tup (tz.map V.ref)))) rr (.tup [V.ref a0, V.ref b0]) = Hf at sf a0f b0f rrf nf ⊢
            obtain ⟨G', e', sN⟩ := W.allnew (Wy.still sf).w s3 fun b o n1 n2 h => sf _ _ (ky b o n1 n2 h)
            refine k rr a0 b0 us vals chs G' Hf e' (SqT.of (sN _ _ (Nw.of frr rrf))) ⟨o, ho, sN _ _ (Nw.of fa0 a0f)⟩ ⟨tz, ⟨ob, hob, sN _ _ (Nw.of fb0 b0f)⟩, da_pairs (g := fun q : Int × Int => [.int q.1, .int q.2]) (h := fun q => [.int q.1, .int q.2]) (fun q => rfl) (fun q => .cons (.int _) (.cons (.int _) .nil)) (paired_mpL nf fun t q h => sameT sN h.nw)⟩ ?_ ?_ hfin
            · refine da_pairs (g := fun q : Str × Int => [.str q.1, .int q.2]) (h := fun q => [.str q.1, .int q.2]) (fun q => rfl) (fun q => .cons (.str _) (.cons (.int _) .nil)) (paired_mpL pus fun t q h => ?_)
              exact sameT sN (h.same sf).nw
            · refine .tup (PlT.sqT ⟨ob, hob, sN _ _ (Nw.of fb0 b0f)⟩) (da_pairs (g := fun q : Int × Int => [.int q.1, .int q.2]) (h := fun q => [.int q.1, .int q.2]) (fun q => rfl) (fun q => .cons (.int _) (.cons (.int _) .nil)) (paired_mpL nf fun t q h => ?_))
              exact sameT sN h.nw
end
end L2.Hx

/-! Parts taken out of cases, over plain lists. -/
namespace L2.Hx
open PySem PySem.Spec PyProof.Rows
abbrev Row := Str × Str × Str
abbrev lrowD (r : Row) : PyData := .tuple [.str r.1, .str r.2.1, .str r.2.2]
abbrev clD (lk pt : List Row) : PyData := .tuple [.tuple (lk.map lrowD), .tuple (pt.map lrowD)]
def lookF (w : Str → Int) (r : Row) : Bool := decide (w r.2.1 = w r.2.2) == decide (r.1 = "is")
def looksF (w : Str → Int) (lk : List Row) : Bool := lk.all (lookF w)
section
variable (ks : List Int) (M : Int → Int) (sh : List Int) (w : Str → Int)
def partP (S : List Int) (r : Row) : Option (List Int) :=
  if r.1 = "cell" then (if w r.2.1 ∈ sh ∧ ¬ w r.2.1 ∈ S ∧ M (w r.2.1) = w r.2.2 then some (S ++ [w r.2.1]) else none) else roadF ks M (w r.2.2) (w r.2.1) S
def partsF : List Int → List Row → Option (List Int)
  | S, [] => some S
  | S, r :: rs => match partP ks M sh w S r with
    | none => none
    | some T => partsF T rs
def takenF (lk pt : List Row) : Option (List Int) := if looksF w lk = true then partsF ks M sh w [] pt else none
/-- as the law takes -/
def freshP (r : Row) : Option (List Int) := if r.1 = "cell" then (if w r.2.1 ∈ sh ∧ M (w r.2.1) = w r.2.2 then some [w r.2.1] else none) else roadF ks M (w r.2.2) (w r.2.1) []
def lawP (S : List Int) (r : Row) : Option (List Int) := match freshP ks M sh w r with
  | none => none
  | some R => if ∃ x ∈ R, x ∈ S then none else some (S ++ R)
end
theorem roadF_pre {ks : List Int} {M : Int → Int} {e : Int} (a : Int) (r : List Int) {T : List Int} (q : roadF ks M e a r = some T) : ∃ t, T = r ++ t := by
  by_cases h1 : a = e
  · rw [roadF_end h1] at q
    cases q
    exact ⟨[], by rw [List.append_nil]⟩
  · by_cases h2 : a ∈ ks ∧ ¬ a ∈ r
    · rw [roadF_on h1 h2.1 h2.2] at q
      obtain ⟨t, e⟩ := roadF_pre (M a) (r ++ [a]) q
      exact ⟨[a] ++ t, by rw [e, List.append_assoc]⟩
    · rw [roadF_no h1 h2] at q
      cases q
termination_by msr ks r
decreasing_by exact msr_lt h2.1 h2.2
theorem roadF_split {ks : List Int} {M : Int → Int} {e : Int} (S : List Int) (a : Int) (r : List Int) (dj : ∀ x ∈ r, ¬ x ∈ S) :
    roadF ks M e a (S ++ r) = match roadF ks M e a r with
      | none => none
      | some R => if ∃ x ∈ R, x ∈ S then none else some (S ++ R) := by
  by_cases h1 : a = e
  · rw [roadF_end h1, roadF_end h1]
    show _ = if ∃ x ∈ r, x ∈ S then none else some (S ++ r)
    rw [if_neg (fun ⟨x, m, y⟩ => dj x m y)]
  · by_cases h2 : a ∈ ks ∧ ¬ a ∈ r
    · rw [roadF_on (r := r) h1 h2.1 h2.2]
      by_cases hS : a ∈ S
      · rw [roadF_no h1 (fun z => z.2 (List.mem_append_left _ hS))]
        cases q : roadF ks M e (M a) (r ++ [a]) with
        | none => rfl
        | some R =>
          obtain ⟨t, et⟩ := roadF_pre _ _ q
          show _ = if ∃ x ∈ R, x ∈ S then none else some (S ++ R)
          rw [if_pos ⟨a, by rw [et]; simp, hS⟩]
      · rw [roadF_on h1 h2.1 (fun z => (List.mem_append.mp z).elim hS h2.2), List.append_assoc]
        exact roadF_split S (M a) (r ++ [a]) fun x m => (List.mem_append.mp m).elim (dj x) fun z => by rw [List.mem_singleton.mp z]; exact hS
    · rw [roadF_no h1 h2, roadF_no h1 (fun z => h2 ⟨z.1, fun y => z.2 (List.mem_append_right _ y)⟩)]
termination_by msr ks r
decreasing_by exact msr_lt h2.1 h2.2
theorem lawP_eq (ks : List Int) (M : Int → Int) (sh : List Int) (w : Str → Int) (S : List Int) (r : Row) : lawP ks M sh w S r = partP ks M sh w S r := by
  unfold lawP partP freshP
  by_cases hc : r.1 = "cell"
  · rw [if_pos hc, if_pos hc]
    by_cases h : w r.2.1 ∈ sh ∧ M (w r.2.1) = w r.2.2
    · rw [if_pos h]
      show (if ∃ x ∈ [w r.2.1], x ∈ S then none else some (S ++ [w r.2.1])) = _
      by_cases hS : w r.2.1 ∈ S
      · rw [if_pos ⟨_, List.mem_cons_self, hS⟩, if_neg (fun z => z.2.1 hS)]
      · rw [if_neg (fun ⟨x, m, y⟩ => hS (by rw [← List.mem_singleton.mp m]; exact y)), if_pos ⟨h.1, hS, h.2⟩]
    · rw [if_neg h, if_neg (fun z => h ⟨z.1, z.2.2⟩)]
  · rw [if_neg hc, if_neg hc]
    have := roadF_split (ks := ks) (M := M) (e := w r.2.2) S (w r.2.1) [] (fun x m => absurd m List.not_mem_nil)
    rw [List.append_nil] at this
    rw [this]
/-- arrows as rows -/
def ldA (c : Cs) : List (Int × Int) := c.2.map fun q => (q.1, q.2.2)
def shA (c : Cs) : List (Int × Bool) := (c.2.filter fun q => decide (q.2.1 = ("short" : Str))).map fun q => (q.1, true)
def endA (c : Cs) (k : Int) : Int := (getA (ldA c) k).getD 0
theorem endA_of {c : Cs} {k e : Int} (h : getA (ldA c) k = some e) : endA c k = e := by
  unfold endA
  rw [h]
  rfl
theorem ldA_keys (c : Cs) : keysA (ldA c) = c.2.map fun q => q.1 := by
  unfold keysA ldA
  rw [List.map_map]
  rfl
theorem shA_keys (c : Cs) : keysA (shA c) = (c.2.filter fun q => decide (q.2.1 = ("short" : Str))).map fun q => q.1 := by
  unfold keysA shA
  rw [List.map_map]
  rfl
def wSp (c : Cs) (t : Str) : Int := (spotF c.1 t : Int)
def restF (c : Cs) (lk pt : List Row) : Option (List Int) := takenF (keysA (ldA c)) (endA c) (keysA (shA c)) (wSp c) lk pt
def restD (c : Cs) (lk pt : List Row) : PyData := match restF c lk pt with
  | none => .none
  | some T => .tuple [.tuple ((c.2.filter fun q => decide (q.1 ∈ T)).map arD), .tuple ((c.2.filter fun q => !decide (q.1 ∈ T)).map arD)]
def marks (T : List Int) : List (Key × V) := T.map fun k => (.inl k, .bl true)
theorem marks_get (k : Int) : ∀ T : List Int, valV (marks T) (.inl k) = if k ∈ T then some (.bl true) else none
  | [] => rfl
  | c :: T => by
    have ih := marks_get k T
    by_cases e : c = k
    · show valV ((.inl c, .bl true) :: marks T) (.inl k) = _
      rw [valV_pos (by rw [e]), if_pos (by rw [e]; exact List.mem_cons_self)]
    · show valV ((.inl c, .bl true) :: marks T) (.inl k) = _
      rw [valV_neg (fun q => e (Sum.inl.inj q)), ih]
      by_cases h : k ∈ T
      · rw [if_pos h, if_pos (List.mem_cons_of_mem _ h)]
      · rw [if_neg h, if_neg (fun q => (List.mem_cons.mp q).elim (fun z => e z.symm) h)]
theorem marks_put {k : Int} {T : List Int} (h : ¬ k ∈ T) : putK (marks T) (.inl k) (.bl true) = marks (T ++ [k]) := by
  rw [putK_new _ (by rw [marks_get, if_neg h])]
  unfold marks
  rw [List.map_append]
  rfl
section
variable {H : Hp} {D : Addr}
theorem get_m {T : List Int} {k : Int} (hD : H D = some (.dK (marks T))) : DGet H D (.int k) (if k ∈ T then some (.bl true) else none) := by
  have := DGet.k (k := .inl k) hD
  rw [marks_get] at this
  exact this
theorem is_m {T : List Int} {k : Int} : ((if k ∈ T then some (V.bl true) else none) : Option V).isSome = decide (k ∈ T) := by
  by_cases h : k ∈ T
  · rw [if_pos h, decide_eq_true h]
    rfl
  · rw [if_neg h, decide_eq_false h]
    rfl
theorem put_m {T : List Int} {k : Int} (hD : H D = some (.dK (marks T))) (h : ¬ k ∈ T) (hl : T.length < sizeLine) : DPut H D (.int k) (.bl true) (upd H D (.dK (marks (T ++ [k])))) := by
  have := DPut.k (k := .inl k) (v := .bl true) hD (by unfold marks; rw [List.length_map]; exact hl)
  rw [marks_put h] at this
  exact this
end
theorem int_ne {m n : Int} : (!decide (V.int m = V.int n)) = !decide (m = n) := by
  by_cases h : m = n
  · rw [h, decide_eq_true rfl, decide_eq_true rfl]
  · rw [decide_eq_false h, decide_eq_false fun q => h (vint q)]
theorem str_eq {x y : Str} : decide (V.str x = V.str y) = decide (x = y) := by
  by_cases h : x = y
  · rw [h, decide_eq_true rfl, decide_eq_true rfl]
  · rw [decide_eq_false h]
    exact decide_eq_false fun q => h (V.str.inj q)
theorem int_eq {m n : Int} : decide (V.int m = V.int n) = decide (m = n) := by
  by_cases h : m = n
  · rw [h, decide_eq_true rfl, decide_eq_true rfl]
  · rw [decide_eq_false h]
    exact decide_eq_false fun q => h (vint q)
theorem look_b {m n : Int} {x y : Str} : (!decide (V.bl (decide (V.int m = V.int n)) = V.bl (decide (V.str x = V.str y)))) = !(decide (m = n) == decide (x = y)) := by
  rw [int_eq, str_eq]
  cases decide (m = n) <;> cases decide (x = y) <;> rfl
theorem drop_row {α : Type} {l : List α} {i : Nat} {x : α} (h : l[i]? = some x) : l.drop i = x :: l.drop (i + 1) := by
  obtain ⟨hi, e⟩ := List.getElem?_eq_some_iff.mp h
  rw [List.drop_eq_getElem_cons hi, e]
theorem row_at {K : PySem.W.Frag} {G : Hp} {v : V} {r : Row} (h : Da K G v (lrowD r)) : ∃ t, v = .ref t ∧ SqT K G t [.str r.1, .str r.2.1, .str r.2.2] := by
  obtain ⟨t, ys, rfl, tT, tA⟩ := h.tupI
  cases tA with
  | cons c1 tA =>
    cases tA with
    | cons c2 tA =>
      cases tA with
      | cons c3 tA =>
        cases tA
        cases c1.strI
        cases c2.strI
        cases c3.strI
        exact ⟨t, rfl, tT⟩
theorem rows_at {K : PySem.W.Frag} {G : Hp} {v : V} {rs : List Row} (h : Da K G v (.tuple (rs.map lrowD))) : ∃ a xs, v = .ref a ∧ SqT K G a xs ∧ xs.length = rs.length ∧ ∀ (i : Nat) (x : V), xs[i]? = some x → ∃ r t, rs[i]? = some r ∧ x = .ref t ∧ SqT K G t [.str r.1, .str r.2.1, .str r.2.2] := by
  obtain ⟨a, xs, rfl, hT, hA⟩ := h.tupI
  refine ⟨a, xs, rfl, hT, by rw [hA.length, List.length_map], fun i x hx => ?_⟩
  obtain ⟨d, hd1, hd2⟩ := hA.get hx
  rw [List.getElem?_map] at hd1
  obtain ⟨r, hr1, rfl⟩ := Option.map_eq_some_iff.mp hd1
  obtain ⟨t, e, tT⟩ := row_at hd2
  exact ⟨r, t, hr1, e, tT⟩
theorem cl_at {K : PySem.W.Frag} {G : Hp} {v : V} {lk pt : List Row} (h : Da K G v (clD lk pt)) : ∃ a vl vp, v = .ref a ∧ SqT K G a [vl, vp] ∧ Da K G vl (.tuple (lk.map lrowD)) ∧ Da K G vp (.tuple (pt.map lrowD)) := by
  obtain ⟨a, xs, rfl, hT, hA⟩ := h.tupI
  cases hA with
  | cons h1 hA =>
    cases hA with
    | cons h2 hA =>
      cases hA
      exact ⟨a, _, _, rfl, hT, h1, h2⟩
/-- the row of values knows a term -/
def Knw (sp : List (Str × Int)) (w : Str → Int) (r : Row) : Prop := getA sp r.2.1 = some (w r.2.1) ∧ getA sp r.2.2 = some (w r.2.2)
theorem kn_get {sp : List (Str × Int)} {w : Str → Int} {t : Str} {H : Hp} {D : Addr} (hD : H D = some (.dK (kvK Sum.inr V.int sp))) (h : getA sp t = some (w t)) : DGet H D (.str t) (some (.int (w t))) := by
  have := dgetS (f := V.int) hD t
  rw [h] at this
  exact this
end L2.Hx

/-! What lies along a case is true of every heap that is drawn of it; names. -/
namespace L2.Hx
open PySem PySem.Spec PyProof.Rows
def mapA (ld : List (Int × Int)) (k : Int) : Int := (getA ld k).getD 0
theorem map_of {ld : List (Int × Int)} {k : Int} (h : k ∈ keysA ld) : getA ld k = some (mapA ld k) := by
  obtain ⟨v, e, _⟩ := getA_in h
  unfold mapA
  rw [e]
  rfl
/-- the cells of a chain -/
def lnkR : Int → List Int → Int → List (Int × Int)
  | b, [], e => [(b, e)]
  | b, d :: ds, e => (b, d) :: lnkR d ds e
theorem lnkR_keys : ∀ (b : Int) (ds : List Int) (e : Int), keysA (lnkR b ds e) = b :: ds
  | _, [], _ => rfl
  | b, d :: ds, e => by
    show b :: keysA (lnkR d ds e) = _
    rw [lnkR_keys d ds e]
theorem putA_new {l : List (Int × Int)} {k v : Int} (h : ¬ k ∈ keysA l) : putA l k v = l ++ [(k, v)] := by
  unfold putA
  rw [if_neg h]
theorem linkF_new : ∀ (ds : List Int) (cs : List (Int × Int)) (b e : Int), (keysA cs ++ b :: ds).Nodup → linkF cs (b, ds, e) = cs ++ lnkR b ds e
  | [], cs, b, e, h => by
    have hn : ¬ b ∈ keysA cs := fun m => (List.nodup_append.mp h).2.2 b m b List.mem_cons_self rfl
    exact putA_new hn
  | d :: ds, cs, b, e, h => by
    have hn : ¬ b ∈ keysA cs := fun m => (List.nodup_append.mp h).2.2 b m b List.mem_cons_self rfl
    show linkF (putA cs b d) (d, ds, e) = _
    have e1 : keysA (cs ++ [(b, d)]) ++ d :: ds = keysA cs ++ b :: d :: ds := by
      unfold keysA
      rw [List.map_append, List.append_assoc]
      rfl
    rw [putA_new hn, linkF_new ds (cs ++ [(b, d)]) d e (by rw [e1]; exact h), List.append_assoc]
    rfl
def lnkC (ch : Ch) : List (Int × Int) := lnkR ch.1 ch.2.1 ch.2.2
def exC (ch : Ch) : List Int := ch.1 :: ch.2.1
theorem cells_new : ∀ (chs pre : List Ch), ((pre ++ chs).flatMap exC).Nodup → (keysA (pre.flatMap lnkC) = pre.flatMap exC) → chs.foldl linkF (pre.flatMap lnkC) = (pre ++ chs).flatMap lnkC
  | [], pre, _, _ => by
    rw [List.append_nil]
    rfl
  | ch :: chs, pre, h, hk => by
    have e1 : pre ++ ch :: chs = (pre ++ [ch]) ++ chs := by rw [List.append_assoc]; rfl
    have h1 : (keysA (pre.flatMap lnkC) ++ exC ch).Nodup := by
      rw [hk]
      rw [e1, List.flatMap_append, List.flatMap_append] at h
      have := (List.nodup_append.mp h).1
      simpa using this
    have e2 : linkF (pre.flatMap lnkC) ch = (pre ++ [ch]).flatMap lnkC := by
      obtain ⟨b, ds, e⟩ := ch
      rw [linkF_new ds _ b e h1, List.flatMap_append]
      simp [lnkC]
    show chs.foldl linkF (linkF (pre.flatMap lnkC) ch) = _
    rw [e2, e1]
    refine cells_new chs (pre ++ [ch]) (by rw [← e1]; exact h) ?_
    rw [List.flatMap_append, List.flatMap_append]
    unfold keysA at hk ⊢
    rw [List.map_append, hk]
    have := lnkR_keys ch.1 ch.2.1 ch.2.2
    unfold keysA at this
    simp [lnkC, exC, this]
theorem cellsF_eq {chs : List Ch} (h : (chs.flatMap exC).Nodup) : cellsF chs = chs.flatMap lnkC ∧ keysA (cellsF chs) = chs.flatMap exC := by
  have e : cellsF chs = chs.flatMap lnkC := by
    have := cells_new chs [] (by simpa using h) rfl
    simpa [cellsF] using this
  refine ⟨e, ?_⟩
  rw [e]
  unfold keysA
  rw [List.map_flatMap]
  congr 1
  funext ch
  exact lnkR_keys _ _ _
/-- along a chain -/
theorem road_chain {cs : List (Int × Int)} {E : Int} (nd : (keysA cs).Nodup) : ∀ (ds : List Int) (b e : Int) (S : List Int), (∀ q ∈ lnkR b ds e, q ∈ cs) → (∀ x ∈ b :: ds, x ≠ E) → (S ++ b :: ds).Nodup → roadF (keysA cs) (mapA cs) E b S = roadF (keysA cs) (mapA cs) E e (S ++ b :: ds)
  | [], b, e, S, hm, hE, hn => by
    have hb := hm (b, e) List.mem_cons_self
    have hk : b ∈ keysA cs := List.mem_map.mpr ⟨_, hb, rfl⟩
    have hM : mapA cs b = e := by
      unfold mapA
      rw [mem_getA nd hb]
      rfl
    rw [roadF_on (hE b List.mem_cons_self) hk (fun m => (List.nodup_append.mp hn).2.2 b m b List.mem_cons_self rfl), hM]
  | d :: ds, b, e, S, hm, hE, hn => by
    have hb := hm (b, d) List.mem_cons_self
    have hk : b ∈ keysA cs := List.mem_map.mpr ⟨_, hb, rfl⟩
    have hM : mapA cs b = d := by
      unfold mapA
      rw [mem_getA nd hb]
      rfl
    have e1 : S ++ b :: d :: ds = (S ++ [b]) ++ d :: ds := by rw [List.append_assoc]; rfl
    rw [roadF_on (hE b List.mem_cons_self) hk (fun m => (List.nodup_append.mp hn).2.2 b m b List.mem_cons_self rfl), hM, e1]
    exact road_chain nd ds d e (S ++ [b]) (fun q m => hm q (List.mem_cons_of_mem _ m)) (fun x m => hE x (List.mem_cons_of_mem _ m)) (by rw [← e1]; exact hn)
theorem flat_inj {α β : Type} {f : α → List β} : ∀ {L : List α}, (L.flatMap f).Nodup → ∀ {x y : α} {z : β}, x ∈ L → y ∈ L → z ∈ f x → z ∈ f y → x = y
  | a :: L, h, x, y, z, hx, hy, zx, zy => by
    rw [List.flatMap_cons] at h
    obtain ⟨_, h2, h3⟩ := List.nodup_append.mp h
    rcases List.mem_cons.mp hx with rfl | hx2 <;> rcases List.mem_cons.mp hy with rfl | hy2
    · rfl
    · exact absurd rfl (h3 z zx z (List.mem_flatMap.mpr ⟨y, hy2, zy⟩))
    · exact absurd rfl (h3 z zy z (List.mem_flatMap.mpr ⟨x, hx2, zx⟩))
    · exact flat_inj h2 hx2 hy2 zx zy
theorem ex_perm : ∀ chs : List Ch, (chs.flatMap exC).Perm (chs.map (fun ch => ch.1) ++ chs.flatMap fun ch => ch.2.1)
  | [] => .refl _
  | ch :: chs => by
    rw [List.flatMap_cons, List.flatMap_cons, List.map_cons]
    show (ch.1 :: (ch.2.1 ++ chs.flatMap exC)).Perm (ch.1 :: (chs.map (fun ch => ch.1) ++ (ch.2.1 ++ chs.flatMap fun ch => ch.2.1)))
    refine .cons _ (((List.Perm.refl _).append (ex_perm chs)).trans ?_)
    rw [← List.append_assoc, ← List.append_assoc]
    exact List.perm_append_comm.append_right _
section
variable {ns : List Str} {c : Cs} {most : Nat} {vals : List Int} {chs : List Ch}
theorem fst_nodup (ok : CaseOk ns c) (hf : HeapF most c vals chs) : (chs.map fun ch => ch.1).Nodup := by
  have nv : vals.Nodup := (List.nodup_append.mp hf.nodup).1
  have key : ∀ {chs : List Ch} {ars : List Ar}, Paired (fun (ch : Ch) (a : Ar) => vals[a.1.toNat]? = some ch.1 ∧ vals[a.2.2.toNat]? = some ch.2.2 ∧ (a.2.1 ≠ "long" → ch.2.1 = []) ∧ ch.2.1.length < most) chs ars → (∀ a ∈ ars, 0 ≤ a.1) → (ars.map fun q => q.1).Nodup → (chs.map fun ch => ch.1).Nodup ∧ ∀ x ∈ chs.map (fun ch => ch.1), ∃ a ∈ ars, vals[a.1.toNat]? = some x := by
    intro chs ars p
    induction p with
    | nil => exact fun _ _ => ⟨List.nodup_nil, fun x m => absurd m List.not_mem_nil⟩
    | @cons ch a chs ars r t ih =>
      intro h0 nd
      have nc := List.nodup_cons.mp nd
      obtain ⟨i1, i2⟩ := ih (fun x m => h0 x (List.mem_cons_of_mem _ m)) nc.2
      refine ⟨List.nodup_cons.mpr ⟨fun m => ?_, i1⟩, fun x m => ?_⟩
      · obtain ⟨b, mb, eb⟩ := i2 _ m
        have e := (List.getElem?_inj (List.getElem?_eq_some_iff.mp r.1).1 nv).mp (r.1.trans eb.symm)
        have h1 := h0 a List.mem_cons_self
        have h2 := h0 b (List.mem_cons_of_mem _ mb)
        exact nc.1 (List.mem_map.mpr ⟨b, mb, by show b.1 = a.1; omega⟩)
      · rcases List.mem_cons.mp m with rfl | m
        · exact ⟨a, List.mem_cons_self, r.1⟩
        · obtain ⟨b, mb, eb⟩ := i2 x m
          exact ⟨b, List.mem_cons_of_mem _ mb, eb⟩
  exact (key hf.chain (fun a m => (ok.ar a m).1) ok.bnd).1
theorem ex_nodup (ok : CaseOk ns c) (hf : HeapF most c vals chs) : (chs.flatMap exC).Nodup := by
  refine (ex_perm chs).nodup_iff.mpr (List.nodup_append.mpr ⟨fst_nodup ok hf, (List.nodup_append.mp hf.nodup).2.1, fun x hx y hy => ?_⟩)
  obtain ⟨ch, mc, rfl⟩ := List.mem_map.mp hx
  have hv : ch.1 ∈ vals := by
    have key : ∀ {chs : List Ch} {ars : List Ar}, Paired (fun (ch : Ch) (a : Ar) => vals[a.1.toNat]? = some ch.1 ∧ vals[a.2.2.toNat]? = some ch.2.2 ∧ (a.2.1 ≠ "long" → ch.2.1 = []) ∧ ch.2.1.length < most) chs ars → ∀ ch ∈ chs, ch.1 ∈ vals := by
      intro chs ars p
      induction p with
      | nil => exact fun ch m => absurd m List.not_mem_nil
      | cons r t ih =>
        intro ch m
        rcases List.mem_cons.mp m with rfl | m
        · exact List.mem_of_getElem? r.1
        · exact ih ch m
    exact key hf.chain ch mc
  exact (List.nodup_append.mp hf.nodup).2.2 _ hv _ hy
/-- the chain of an arrow -/
def chF (c : Cs) (chs : List Ch) (b : Int) : Ch := (getA ((c.2.map fun q => q.1).zip chs) b).getD (0, [], 0)
def exF (c : Cs) (chs : List Ch) (b : Int) : List Int := exC (chF c chs b)
theorem chF_of (ok : CaseOk ns c) (hf : HeapF most c vals chs) {i : Nat} {q : Ar} (hq : c.2[i]? = some q) : chs[i]? = some (chF c chs q.1) ∧ vals[q.1.toNat]? = some (chF c chs q.1).1 ∧ vals[q.2.2.toNat]? = some (chF c chs q.1).2.2 ∧ (q.2.1 ≠ "long" → (chF c chs q.1).2.1 = []) := by
  have hlen := hf.chain.length
  have il := (List.getElem?_eq_some_iff.mp hq).1
  obtain ⟨a, ea, r⟩ := paired_at hf.chain (List.getElem?_eq_getElem (show i < chs.length by omega))
  rw [hq] at ea
  cases ea
  have hz : (q.1, chs[i]) ∈ (c.2.map fun q => q.1).zip chs := List.mem_of_getElem? (List.getElem?_zip_eq_some.mpr ⟨by rw [List.getElem?_map, hq]; rfl, List.getElem?_eq_getElem (by omega)⟩)
  have kz : keysA ((c.2.map fun q => q.1).zip chs) = c.2.map fun q => q.1 := by
    unfold keysA
    exact List.map_fst_zip (by rw [List.length_map]; omega)
  have e : chF c chs q.1 = chs[i] := by
    unfold chF
    rw [mem_getA (by rw [kz]; exact ok.bnd) hz]
    rfl
  rw [e]
  exact ⟨List.getElem?_eq_getElem (by omega), r.1, r.2.1, r.2.2.1⟩
theorem ex_all (ok : CaseOk ns c) (hf : HeapF most c vals chs) : (keysA (ldA c)).flatMap (exF c chs) = chs.flatMap exC := by
  have e : (keysA (ldA c)).map (chF c chs) = chs := by
    refine List.ext_getElem? fun i => ?_
    rw [ldA_keys, List.map_map, List.getElem?_map]
    cases h : c.2[i]? with
    | none =>
      have h2 := List.getElem?_eq_none_iff.mp h
      have := hf.chain.length
      rw [List.getElem?_eq_none (by omega)]
      rfl
    | some q => exact (chF_of ok hf h).1.symm
  conv => rhs; rw [← e]
  rw [List.flatMap_map]
  rfl
end
section
variable {ns : List Str} {c : Cs} {most : Nat} {vals : List Int} {chs : List Ch}
/-- the value of a spot -/
def vF (vals : List Int) (b : Int) : Int := (vals[b.toNat]?).getD 0
theorem vF_at {b : Int} {x : Int} (h : vals[b.toNat]? = some x) : vF vals b = x := by
  unfold vF
  rw [h]
  rfl
theorem vF_inj (hf : HeapF most c vals chs) {a b : Int} (a0 : 0 ≤ a) (a1 : a < c.1.length) (b0 : 0 ≤ b) (b1 : b < c.1.length) (h : vF vals a = vF vals b) : a = b := by
  have nv : vals.Nodup := (List.nodup_append.mp hf.nodup).1
  have hl := hf.len
  have ea := List.getElem?_eq_getElem (show a.toNat < vals.length by omega)
  have eb := List.getElem?_eq_getElem (show b.toNat < vals.length by omega)
  rw [vF_at ea, vF_at eb] at h
  rw [h, ← eb] at ea
  have := (List.getElem?_inj (by omega) nv).mp ea
  omega
theorem key_row {k : Int} (h : k ∈ keysA (ldA c)) : ∃ (i : Nat) (q : Ar), c.2[i]? = some q ∧ q.1 = k := by
  rw [ldA_keys] at h
  obtain ⟨q, mq, e⟩ := List.mem_map.mp h
  obtain ⟨i, hi⟩ := List.mem_iff_getElem?.mp mq
  exact ⟨i, q, hi, e⟩
theorem map_row (ok : CaseOk ns c) {i : Nat} {q : Ar} (hq : c.2[i]? = some q) : mapA (ldA c) q.1 = q.2.2 := by
  have e : getA (ldA c) q.1 = some q.2.2 := mem_getA (by rw [ldA_keys]; exact ok.bnd) (List.mem_map.mpr ⟨q, List.mem_of_getElem? hq, rfl⟩)
  unfold mapA
  rw [e]
  rfl
/-- the cells of different arrows are different -/
theorem ex_apart (ok : CaseOk ns c) (hf : HeapF most c vals chs) {a b : Int} (ha : a ∈ keysA (ldA c)) (hb : b ∈ keysA (ldA c)) {z : Int} (za : z ∈ exF c chs a) (zb : z ∈ exF c chs b) : a = b := by
  have n := ex_nodup ok hf
  rw [← ex_all ok hf] at n
  exact flat_inj n ha hb za zb
theorem ex_here (ok : CaseOk ns c) (hf : HeapF most c vals chs) {a : Int} (ha : a ∈ keysA (ldA c)) : (exF c chs a).Nodup ∧ (∀ q ∈ lnkC (chF c chs a), q ∈ cellsF chs) ∧ (chF c chs a).1 = vF vals a ∧ (chF c chs a).2.2 = vF vals (mapA (ldA c) a) ∧ ∀ x ∈ (chF c chs a).2.1, ¬ x ∈ vals := by
  obtain ⟨i, q, hq, rfl⟩ := key_row ha
  obtain ⟨h1, h2, h3, h4⟩ := chF_of ok hf hq
  have n := ex_nodup ok hf
  have m := List.mem_of_getElem? h1
  refine ⟨?_, fun z mz => ?_, (vF_at h2).symm, ?_, fun x mx hv => ?_⟩
  · have sub : (exF c chs q.1).Sublist (chs.flatMap exC) := by
      show (exC (chF c chs q.1)).Sublist _
      rw [List.flatMap_def]
      exact List.sublist_flatten_of_mem (List.mem_map.mpr ⟨_, m, rfl⟩)
    exact sub.nodup n
  · rw [(cellsF_eq n).1]
    exact List.mem_flatMap.mpr ⟨_, m, mz⟩
  · rw [map_row ok hq, vF_at h3]
  · exact (List.nodup_append.mp hf.nodup).2.2 x hv x (List.mem_flatMap.mpr ⟨_, m, mx⟩) rfl
theorem road_case (ok : CaseOk ns c) (hf : HeapF most c vals chs) {e : Int} (e0 : 0 ≤ e) (e1 : e < c.1.length) (a : Int) (r : List Int) {T : List Int} (a0 : 0 ≤ a) (a1 : a < c.1.length) (on : Once (keysA (ldA c)) r)
    (h : roadF (keysA (ldA c)) (mapA (ldA c)) e a r = some T) : roadF (keysA (cellsF chs)) (mapA (cellsF chs)) (vF vals e) (vF vals a) (r.flatMap (exF c chs)) = some (T.flatMap (exF c chs)) := by
  have n := ex_nodup ok hf
  by_cases h1 : a = e
  · rw [roadF_end h1] at h
    cases h
    rw [h1, roadF_end rfl]
  · by_cases h2 : a ∈ keysA (ldA c) ∧ ¬ a ∈ r
    · rw [roadF_on h1 h2.1 h2.2] at h
      obtain ⟨x1, x2, x3, x4, x5⟩ := ex_here ok hf h2.1
      obtain ⟨i, q, hq, eq⟩ := key_row h2.1
      have ar := ok.ar q (List.mem_of_getElem? hq)
      have em : mapA (ldA c) a = q.2.2 := by rw [← eq]; exact map_row ok hq
      have ih := road_case ok hf e0 e1 (mapA (ldA c) a) (r ++ [a]) (by rw [em]; exact ar.2.2.2.1) (by rw [em]; exact ar.2.2.2.2) (on.snoc h2.1 h2.2) h
      have hl := hf.len
      have step := road_chain (cs := cellsF chs) (E := vF vals e) (by rw [(cellsF_eq n).2]; exact n) (chF c chs a).2.1 (chF c chs a).1 (chF c chs a).2.2 (r.flatMap (exF c chs)) x2 (fun x m => ?_) ?_
      · rw [x3, x4] at step
        rw [step, ← ih, List.flatMap_append]
        congr 1
        rw [← x3]
        simp [exF, exC]
      · rcases List.mem_cons.mp m with rfl | m
        · rw [x3]
          exact fun z => h1 (vF_inj hf a0 a1 e0 e1 z)
        · intro z
          refine x5 x m ?_
          rw [z]
          have ee := List.getElem?_eq_getElem (show e.toNat < vals.length by omega)
          rw [vF_at ee]
          exact List.getElem_mem _
      · refine List.nodup_append.mpr ⟨?_, x1, fun x hx y hy exy => ?_⟩
        · have sub : ∀ {r : List Int}, Once (keysA (ldA c)) r → (r.flatMap (exF c chs)).Nodup := by
            intro r
            induction r with
            | nil => exact fun _ => List.nodup_nil
            | cons b r ihr =>
              intro o
              have oc := List.nodup_cons.mp o.1
              rw [List.flatMap_cons]
              refine List.nodup_append.mpr ⟨(ex_here ok hf (o.2 b List.mem_cons_self)).1, ihr ⟨oc.2, fun x m => o.2 x (List.mem_cons_of_mem _ m)⟩, fun x hx y hy exy => ?_⟩
              obtain ⟨b2, mb2, hb2⟩ := List.mem_flatMap.mp hy
              rw [← exy] at hb2
              have := ex_apart ok hf (o.2 b List.mem_cons_self) (o.2 b2 (List.mem_cons_of_mem _ mb2)) hx hb2
              rw [this] at oc
              exact oc.1 mb2
          exact sub on
        · obtain ⟨b, mb, hb⟩ := List.mem_flatMap.mp hx
          rw [exy] at hb
          have := ex_apart ok hf (on.2 b mb) h2.1 hb hy
          rw [this] at mb
          exact h2.2 mb
    · rw [roadF_no h1 h2] at h
      cases h
termination_by msr (keysA (ldA c)) r
decreasing_by exact msr_lt h2.1 h2.2
def wVal (c : Cs) (vals : List Int) (t : Str) : Int := vF vals (wSp c t)
def TmOk (ns : List Str) (t : Str) : Prop := t = "nil" ∨ t ∈ ns
theorem wSp_in (ok : CaseOk ns c) (nd : ns.Nodup) {t : Str} (h : TmOk ns t) : 0 ≤ wSp c t ∧ wSp c t < c.1.length := by
  have := ok.spot_lt nd h
  unfold wSp
  omega
theorem part_case (ok : CaseOk ns c) (hf : HeapF most c vals chs) (nd : ns.Nodup) {r : Row} (k1 : TmOk ns r.2.1) (k2 : TmOk ns r.2.2) {S T : List Int} (on : Once (keysA (ldA c)) S)
    (h : partP (keysA (ldA c)) (mapA (ldA c)) (keysA (shA c)) (wSp c) S r = some T) :
    partP (keysA (cellsF chs)) (mapA (cellsF chs)) (keysA (cellsF chs)) (wVal c vals) (S.flatMap (exF c chs)) r = some (T.flatMap (exF c chs)) ∧ Once (keysA (ldA c)) T := by
  have n := ex_nodup ok hf
  have s1 := wSp_in ok nd k1
  have s2 := wSp_in ok nd k2
  unfold partP at h ⊢
  by_cases hc : r.1 = "cell"
  · rw [if_pos hc] at h ⊢
    split at h
    · rename_i hh
      cases h
      have hk : wSp c r.2.1 ∈ keysA (ldA c) := by
        have := hh.1
        rw [shA_keys] at this
        rw [ldA_keys]
        obtain ⟨z, mz, e⟩ := List.mem_map.mp this
        exact List.mem_map.mpr ⟨z, (List.mem_filter.mp mz).1, e⟩
      obtain ⟨x1, x2, x3, x4, x5⟩ := ex_here ok hf hk
      obtain ⟨i, q, hq, eq⟩ := key_row hk
      have hshort : q.2.1 = "short" := by
        have := hh.1
        rw [shA_keys] at this
        obtain ⟨z, mz, e⟩ := List.mem_map.mp this
        obtain ⟨m1, m2⟩ := List.mem_filter.mp mz
        have nd2 : (keysA c.2).Nodup := ok.bnd
        have g1 := mem_getA nd2 (show (z.1, z.2) ∈ c.2 from m1)
        have g2 := mem_getA nd2 (show (q.1, q.2) ∈ c.2 from List.mem_of_getElem? hq)
        rw [show z.1 = q.1 by rw [eq]; exact e, g2] at g1
        rw [Option.some.inj g1]
        exact of_decide_eq_true m2
      have ds0 : (chF c chs (wSp c r.2.1)).2.1 = [] := by
        have := (chF_of ok hf hq).2.2.2 (by rw [hshort]; decide +kernel)
        rw [eq] at this
        exact this
      have ex1 : exF c chs (wSp c r.2.1) = [wVal c vals r.2.1] := by
        unfold exF exC
        rw [ds0, x3]
        rfl
      have hcell : (wVal c vals r.2.1, wVal c vals r.2.2) ∈ cellsF chs := by
        refine x2 _ ?_
        unfold lnkC
        rw [ds0, x3, x4, hh.2.2]
        exact List.mem_cons_self
      have ndc : (keysA (cellsF chs)).Nodup := by rw [(cellsF_eq n).2]; exact n
      refine ⟨?_, on.snoc hk hh.2.1⟩
      have c1 : wVal c vals r.2.1 ∈ keysA (cellsF chs) := List.mem_map.mpr ⟨_, hcell, rfl⟩
      have c2 : ¬ wVal c vals r.2.1 ∈ S.flatMap (exF c chs) := fun m => by
        obtain ⟨b, mb, hb⟩ := List.mem_flatMap.mp m
        have := ex_apart ok hf (on.2 b mb) hk hb (by rw [ex1]; exact List.mem_cons_self)
        rw [this] at mb
        exact hh.2.1 mb
      have c3 : mapA (cellsF chs) (wVal c vals r.2.1) = wVal c vals r.2.2 := by
        unfold mapA
        rw [mem_getA ndc hcell]
        rfl
      rw [if_pos ⟨c1, c2, c3⟩, List.flatMap_append, List.flatMap_cons, List.flatMap_nil, ex1, List.append_nil]
    · cases h
  · rw [if_neg hc] at h ⊢
    exact ⟨road_case ok hf s2.1 s2.2 _ _ s1.1 s1.2 on h, roadF_once _ _ on h⟩
theorem parts_case (ok : CaseOk ns c) (hf : HeapF most c vals chs) (nd : ns.Nodup) : ∀ {pt : List Row} {S T : List Int}, (∀ r ∈ pt, TmOk ns r.2.1 ∧ TmOk ns r.2.2) → Once (keysA (ldA c)) S → partsF (keysA (ldA c)) (mapA (ldA c)) (keysA (shA c)) (wSp c) S pt = some T →
    partsF (keysA (cellsF chs)) (mapA (cellsF chs)) (keysA (cellsF chs)) (wVal c vals) (S.flatMap (exF c chs)) pt = some (T.flatMap (exF c chs)) ∧ Once (keysA (ldA c)) T
  | [], S, T, _, on, h => by
    rw [partsF] at h ⊢
    cases h
    exact ⟨rfl, on⟩
  | r :: pt, S, T, hk, on, h => by
    rw [partsF] at h ⊢
    have kr := hk r List.mem_cons_self
    cases e : partP (keysA (ldA c)) (mapA (ldA c)) (keysA (shA c)) (wSp c) S r with
    | none =>
      rw [e] at h
      cases h
    | some T2 =>
      rw [e] at h
      obtain ⟨p1, p2⟩ := part_case ok hf nd kr.1 kr.2 on e
      rw [p1]
      exact parts_case ok hf nd (fun q m => hk q (List.mem_cons_of_mem _ m)) p2 h
theorem looks_case (ok : CaseOk ns c) (hf : HeapF most c vals chs) (nd : ns.Nodup) {lk : List Row} (hk : ∀ r ∈ lk, TmOk ns r.2.1 ∧ TmOk ns r.2.2) : looksF (wVal c vals) lk = looksF (wSp c) lk := by
  induction lk with
  | nil => rfl
  | cons r lk ih =>
    have kr := hk r List.mem_cons_self
    have s1 := wSp_in ok nd kr.1
    have s2 := wSp_in ok nd kr.2
    have e : lookF (wVal c vals) r = lookF (wSp c) r := by
      unfold lookF
      rw [show decide (wVal c vals r.2.1 = wVal c vals r.2.2) = decide (wSp c r.2.1 = wSp c r.2.2) from decide_eq_decide.mpr ⟨fun z => vF_inj hf s1.1 s1.2 s2.1 s2.2 z, fun z => by unfold wVal; rw [z]⟩]
    show (lookF (wVal c vals) r && looksF (wVal c vals) lk) = (lookF (wSp c) r && looksF (wSp c) lk)
    rw [e, ih fun q m => hk q (List.mem_cons_of_mem _ m)]
theorem all_case (ok : CaseOk ns c) (hf : HeapF most c vals chs) {T : List Int} (on : Once (keysA (ldA c)) T) (h : T.length = c.2.length) : (T.flatMap (exF c chs)).length = (cellsF chs).length := by
  have n := ex_nodup ok hf
  have kl : (keysA (ldA c)).length = c.2.length := by rw [ldA_keys, List.length_map]
  have pm : T.Perm (keysA (ldA c)) := by
    refine (List.perm_ext_iff_of_nodup on.1 (by rw [ldA_keys]; exact ok.bnd)).mpr fun x => ⟨on.2 x, fun m => Classical.byContradiction fun z => ?_⟩
    have := once_len (on.snoc m z)
    rw [List.length_append, List.length_singleton] at this
    omega
  have e := (pm.flatMap_right (exF c chs)).length_eq
  rw [e, ex_all ok hf, ← (cellsF_eq n).2]
  unfold keysA
  rw [List.length_map]
/-- what lies along all of a case is true of its heaps -/
theorem taken_case (ok : CaseOk ns c) (hf : HeapF most c vals chs) (nd : ns.Nodup) {lk pt : List Row} (k1 : ∀ r ∈ lk, TmOk ns r.2.1 ∧ TmOk ns r.2.2) (k2 : ∀ r ∈ pt, TmOk ns r.2.1 ∧ TmOk ns r.2.2) {T : List Int}
    (h : takenF (keysA (ldA c)) (mapA (ldA c)) (keysA (shA c)) (wSp c) lk pt = some T) (hl : T.length = c.2.length) :
    ∃ T2, takenF (keysA (cellsF chs)) (mapA (cellsF chs)) (keysA (cellsF chs)) (wVal c vals) lk pt = some T2 ∧ T2.length = (cellsF chs).length := by
  unfold takenF at h ⊢
  split at h
  · rename_i hL
    obtain ⟨p1, p2⟩ := parts_case ok hf nd k2 Once.nil h
    refine ⟨_, ?_, all_case ok hf p2 hl⟩
    rw [looks_case ok hf nd k1, if_pos hL]
    exact p1
  · cases h
end
def lets : List Str := ["x", "y", "p", "tail", "result", "abcdefgh"]
theorem lets_ok : ∀ z ∈ lets, Okd 0 100 (.str z) := by
  have h : (lets.all fun z => okB (.str z) && decide (siz (.str z) ≤ 100)) = true := by decide +kernel
  rw [List.all_eq_true] at h
  intro z m
  have q := h z m
  rw [Bool.and_eq_true] at q
  exact ⟨q.1, Nat.zero_le _, of_decide_eq_true q.2⟩
theorem lets_shp : ∀ z ∈ lets, Shp (.str z) := by
  have h : (lets.all fun z => (PyData.str z).canLay0) = true := by decide +kernel
  rw [List.all_eq_true] at h
  exact fun z m => ⟨h z m, by simp [PyData.depth]⟩
theorem lets_nd : lets.Nodup := by decide +kernel
theorem lets_nn : ¬ ("nil" : Str) ∈ lets := by decide +kernel
structure NamesOk (ns : List Str) : Prop where
  nd : ns.Nodup
  sub : ∀ n ∈ ns, n ∈ lets
  len : ns.length ≤ 8
theorem NamesOk.nn {ns : List Str} (h : NamesOk ns) : ¬ ("nil" : Str) ∈ ns := fun m => lets_nn (h.sub _ m)
theorem names_of {ns ms : List Str} (p : ns.Perm ms) (nd : ms.Nodup) (sub : ∀ n ∈ ms, n ∈ lets) : NamesOk ns := by
  refine ⟨p.nodup_iff.mpr nd, fun n m => sub n (p.mem_iff.mp m), ?_⟩
  suffices ∀ (T ks : List Str), T.Nodup → (∀ x ∈ T, x ∈ ks) → T.length ≤ ks.length by
    have h := this ns lets (p.nodup_iff.mpr nd) fun n m => sub n (p.mem_iff.mp m)
    exact Nat.le_trans h (by decide)
  intro T
  induction T with
  | nil => intro ks _ _; exact Nat.zero_le _
  | cons t T ih =>
    intro ks nd h
    have hc := List.nodup_cons.mp nd
    have hm : t ∈ ks := h t List.mem_cons_self
    have h2 := ih (ks.erase t) hc.2 fun x hx => (List.mem_erase_of_ne (fun e => hc.1 (by rw [← e]; exact hx))).mpr (h x (List.mem_cons_of_mem _ hx))
    rw [List.length_erase_of_mem hm] at h2
    have pos : 0 < ks.length := List.length_pos_of_mem hm
    rw [List.length_cons]
    omega
theorem cut_strs (ns : List Str) (lo hi : Option Int) : ∃ ms : List Str, cutV (ns.map V.str) lo hi = ms.map V.str ∧ ms.Sublist ns := by
  refine ⟨(ns.drop (HT.sIx (ns.map V.str).length 0 lo)).take (HT.sIx (ns.map V.str).length (ns.map V.str).length hi - HT.sIx (ns.map V.str).length 0 lo), ?_, (List.take_sublist _ _).trans (List.drop_sublist _ _)⟩
  unfold cutV
  rw [List.map_take, List.map_drop]
end L2.Hx

/-! Worth, takes, is_so. -/
namespace L2.Hx
open PySem PySem.Spec PyProof.Rows
def Trm (ns : List Str) (t : Str) : Prop := t = "nil" ∨ t ∈ ns
theorem sq_lst {K : PySem.W.Frag} {L : Addr} {o2 : HO} {H : Hp} {a : Addr} {xs zs : List V} (hL : H L = some (.lst zs)) (q : SqT K H a xs) : SqT K (upd H L o2) a xs := by
  have n : ∀ o, H a = some o → (∀ ys, o ≠ .lst ys) → a ≠ L := fun o e z q => by
    rw [q, hL] at e
    exact z zs (Option.some.inj e).symm
  rcases q with (q | ⟨o, q⟩) | q
  · exact .inl (.inl (by rw [upd_ne (n _ q (by intro k z; cases z))]; exact q))
  · exact .inl (.inr ⟨o, by rw [upd_ne (n _ q (by intro k z; cases z))]; exact q⟩)
  · exact .inr q
def spIsSo (K : PySem.W.Frag) : Sp := fun vs H Q _ => ∃ (x : V) (D : Addr) (r : Row) (sp : List (Str × Int)) (w : Str → Int) (G : Hp), vs = [x, .ref D] ∧ Same G H ∧ Da K G x (lrowD r) ∧ H D = some (.dK (kvK Sum.inr V.int sp)) ∧ Knw sp w r ∧ Q (.bl (lookF w r)) H
theorem rowsF_keys : ∀ {lots : List (List Str)} {vals : List Int}, vals.length = lots.length → keysA (rowsF lots vals) = lots.flatten
  | [], [], _ => rfl
  | l :: lots, v :: vals, h => by
    have ih := rowsF_keys (lots := lots) (vals := vals) (Nat.succ.inj h)
    unfold rowsF keysA at ih ⊢
    rw [List.zip_cons_cons, List.flatMap_cons, List.map_append, ih, List.flatten_cons, List.map_map]
    congr 1
    exact List.map_id'' (fun _ => rfl) l
/-- a term's value -/
theorem store_get {ns : List Str} {c : Cs} {most : Nat} {vals : List Int} {chs : List Ch} {t : Str} (ok : CaseOk ns c) (nd : ns.Nodup) (nn : ¬ ("nil" : Str) ∈ ns) (hf : HeapF most c vals chs) (m : t = "nil" ∨ t ∈ ns) :
    ∃ v, vals[spotF c.1 t]? = some v ∧ getA (putA (storeF c vals) "nil" 0) t = some v := by
  have pm := (List.mergeSort_perm (rowsF c.1 vals) (PySem.W.dataLe false pairS)).map Prod.fst
  have kd : (keysA (storeF c vals)).Nodup := by
    refine pm.nodup_iff.mpr ?_
    show (keysA (rowsF c.1 vals)).Nodup
    rw [rowsF_keys hf.len]
    exact ok.nd nd
  rw [get_putA]
  by_cases e : t = "nil"
  · rw [if_pos e]
    refine ⟨0, ?_, rfl⟩
    unfold spotF
    rw [if_pos e]
    exact hf.zero
  · rw [if_neg e]
    obtain ⟨l, e1, m1⟩ := find_at (ok.nd nd) (ok.perm.mem_iff.mpr (m.resolve_left e))
    have lt := (List.getElem?_eq_some_iff.mp e1).1
    rw [← hf.len] at lt
    have es : spotF c.1 t = c.1.findIdx fun l => decide (t ∈ l) := by
      unfold spotF
      rw [if_neg e]
    refine ⟨vals[c.1.findIdx fun l => decide (t ∈ l)], by rw [es]; exact List.getElem?_eq_getElem lt, mem_getA kd ((List.mergeSort_perm _ _).mem_iff.mpr ?_)⟩
    refine List.mem_flatMap.mpr ⟨(l, vals[c.1.findIdx fun l => decide (t ∈ l)]), List.mem_of_getElem? (List.getElem?_zip_eq_some.mpr ⟨e1, List.getElem?_eq_getElem lt⟩), List.mem_map.mpr ⟨t, m1, rfl⟩⟩
theorem pairs_inv {K : PySem.W.Frag} {G : Hp} : ∀ {ps : List Addr} {st : List (Str × Int)}, DaAll K G (ps.map V.ref) (st.map pairS) → Paired (fun p kv => SqT K G p [kV kv.1, kv.2]) ps (kvK Sum.inr V.int st)
  | [], [], _ => .nil
  | [], _ :: _, h => by cases h
  | _ :: _, [], h => by cases h
  | p :: ps, q :: st, h => by
    cases h with
    | cons h1 h2 =>
      obtain ⟨a, xs, e, sq, da⟩ := h1.tupI
      cases e
      refine .cons ?_ (pairs_inv h2)
      cases da with
      | cons a1 t =>
        cases a1
        cases t with
        | cons a2 t =>
          cases a2
          cases t
          exact sq
theorem dec_bl (x y : Bool) : decide (V.bl x = V.bl y) = (x == y) := by
  cases x <;> cases y <;> rfl
def spWorth (K : PySem.W.Frag) : Sp := fun vs H Q _ => ∃ (a : Addr) (ps : List Addr) (G : Hp) (ns : List Str) (c : Cs) (most : Nat) (vals : List Int) (chs : List Ch), vs = [.ref a] ∧ Same G H ∧ PlT G a (ps.map V.ref) ∧ DaAll K G (ps.map V.ref) ((storeF c vals).map pairS) ∧ CaseOk ns c ∧ NamesOk ns ∧ HeapF most c vals chs ∧
  ∀ (d : Addr) (VS : List (Str × Int)) (H' : Hp), Same H H' → H d = none → H' d = some (.dK (kvK Sum.inr V.int VS)) → (∀ t, Trm ns t → getA VS t = some (wVal c vals t)) → Q (.ref d) H'
def spTk (K : PySem.W.Frag) : Sp := fun vs H Q _ => ∃ (x : V) (D L : Addr) (r : Row) (sp : List (Str × Int)) (w : Str → Int) (ld : List (Int × Int)) (G : Hp), vs = [x, .ref D, .ref L] ∧ Same G H ∧ Da K G x (lrowD r) ∧ H D = some (.dK (kvK Sum.inr V.int sp)) ∧ Knw sp w r ∧ H L = some (.dK (kvK Sum.inl V.int ld)) ∧ (keysA ld).length ≤ 2000 ∧
  match freshP (keysA ld) (mapA ld) (keysA ld) w r with
    | none => ∀ H', Same H H' → Q .non H'
    | some R => Once (keysA ld) R → ∀ g H', Same H H' → H g = none → H' g = some (.lst (R.map V.int)) → Q (.ref g) H'
def spDealt (K : PySem.W.Frag) : Sp := fun vs H Q _ => ∃ (u : V) (D L : Addr) (lk pt : List Row) (sp : List (Str × Int)) (w : Str → Int) (ld : List (Int × Int)) (G : Hp), vs = [u, .ref D, .ref L] ∧ Same G H ∧ Da K G u (clD lk pt) ∧ H D = some (.dK (kvK Sum.inr V.int sp)) ∧ H L = some (.dK (kvK Sum.inl V.int ld)) ∧ (keysA ld).length ≤ 2000 ∧ (∀ r ∈ lk, Knw sp w r) ∧ (∀ r ∈ pt, Knw sp w r) ∧
  match takenF (keysA ld) (mapA ld) (keysA ld) w lk pt with
    | none => ∀ H', Same H H' → Q .non H'
    | some T => ∀ g H', Same H H' → H g = none → H' g = some (.lst (T.map V.int)) → Q (.ref g) H'
section
variable {P : Program} {w : World} {K : PySem.W.Frag} {mg : Str → Option Value} {base : Heap}
theorem D_l_is_so (T : Txt K mg) : Df P w K mg base 1 "_law_is_so" ["look", "worth"] (spIsSo K) := by
  obtain ⟨f, fd, S⟩ := T.d_l_is_so
  refine Df.mk' (k := 0) S sc_l_is_so (fun vs H Q E h => ?_) (fun cdv A outer s H vs Q E hgd hr h => ?_)
  · obtain ⟨x, D, r, sp, w, G, rfl, _⟩ := h
    rfl
  · obtain ⟨x, D, r, sp, wf, G, rfl, sm, dr, hD, kn, k⟩ := h
    have hu := hu_of hr
    obtain ⟨t, rfl, sq⟩ := row_at dr
    refine ⟨_, (pss_one (ps_ret (pe_cmpR op_eq (pe_cmpR op_eq (pe_dget hu (pv 1) (pe_ix ix_tup (pv 0) pe_int (fun _ _ => rfl)) (fun _ _ => rfl)) (pe_dget hu (pv 1) (pe_ix ix_tup (pv 0) pe_int (fun _ _ => rfl)) (fun _ _ => rfl)) (nomark _)) (pe_cmpR op_eq (pe_ix ix_tup (pv 0) pe_int (fun _ _ => rfl)) pe_str (nomark _)) (nomark _)))), ?_⟩
    refine ⟨_, rfl, _, rfl, t, _, 1, _, rfl, rfl, sameT sm sq, rfl, D, _, rfl, kn_get hD kn.1, _, rfl, _, rfl, t, _, 2, _, rfl, rfl, sameT sm sq, rfl, D, _, rfl, kn_get hD kn.2, rfl, _, rfl, t, _, 0, _, rfl, rfl, sameT sm sq, rfl, rfl, rfl, ?_⟩
    have e : decide (V.bl (decide (V.int (wf r.2.1) = V.int (wf r.2.2))) = V.bl (decide (V.str r.1 = V.str "is"))) = lookF wf r := by
      rw [int_eq, str_eq]
      unfold lookF
      cases decide (wf r.2.1 = wf r.2.2) <;> cases decide (r.1 = "is") <;> rfl
    rw [e]
    exact k
theorem D_l_worth (T : Txt K mg) : Df P w K mg base 1 "_law_worth" ["store"] (spWorth K) := by
  obtain ⟨f, fd, S⟩ := T.d_l_worth
  refine Df.mk' (k := 0) S sc_l_worth (fun vs H Q E h => ?_) (fun cdv A outer s H vs Q E hgd hr h => ?_)
  · obtain ⟨a, ps, G, ns, c, most, vals, chs, rfl, _⟩ := h
    rfl
  · obtain ⟨a, ps, G, ns, c, most, vals, chs, rfl, sm, pl, dps, ok, hn, hf, k⟩ := h
    have hu := hu_of hr
    refine ⟨_, (pss_cons (ps_set (i := 1) sc_l_worth.nd rfl (.inl rfl) (pe_callTy (call_dictPT rfl) (by rfl) T.b_dict (by decide +kernel) (pa_cons (pv 0) pa_nil)))
      (pss_cons (ps_dput hu (pv 1) pe_str pe_int rfl)
      (pss_one (ps_ret (pv 1))))), ?_⟩
    have skd : (keysA (storeF c vals)).Nodup := by
      refine ((List.mergeSort_perm (rowsF c.1 vals) (PySem.W.dataLe false pairS)).map Prod.fst).nodup_iff.mpr ?_
      show (keysA (rowsF c.1 vals)).Nodup
      rw [rowsF_keys hf.len]
      exact ok.nd hn.nd
    have mm : mergeK [] (kvK (Sum.inr : Str → Key) V.int (storeF c vals)) = kvK Sum.inr V.int (storeF c vals) := by
      have := merge_kv (ι := (Sum.inr : Str → Key)) (f := V.int) inr_inj (storeF c vals) [] (by rw [List.nil_append]; exact skd)
      rw [List.nil_append] at this
      exact this
    have lst : (storeF c vals).length ≤ 8 := by
      have h1 := congrArg List.length (rowsF_keys (lots := c.1) (vals := vals) hf.len)
      have h2 := ok.perm.length_eq
      have h3 := (List.mergeSort_perm (rowsF c.1 vals) (PySem.W.dataLe false pairS)).length_eq
      have h4 := hn.len
      unfold keysA at h1
      rw [List.length_map] at h1
      show ((rowsF c.1 vals).mergeSort (PySem.W.dataLe false pairS)).length ≤ 8
      omega
    refine ⟨_, rfl, a, ps, kvK Sum.inr V.int (storeF c vals), rfl, pl.same sm, paired_mpL (pairs_inv dps) fun t kv h => sameT sm h, fun dv hdv => ?_⟩
    rw [mm]
    dsimp only [gName, List.set]
    have big : (2000 : Nat) ≤ sizeLine := by decide
    refine ⟨_, rfl, dv, _, rfl, dputS (f := V.int) upd_same "nil" 0 (by omega), _, rfl, ?_⟩
    refine k dv (putA (storeF c vals) "nil" 0) _ (sameOut (sameAdd hdv) hdv) hdv upd_same fun t ht => ?_
    obtain ⟨v, e1, e2⟩ := store_get ok hn.nd hn.nn hf ht
    rw [e2]
    unfold wVal wSp
    rw [vF_at (show vals[((spotF c.1 t : Nat) : Int).toNat]? = some v by rw [Int.toNat_natCast]; exact e1)]
theorem D_l_takes (T : Txt K mg) : Df P w K mg base 1 "_law_takes" ["part", "worth", "cells"] (spTk K) := by
  obtain ⟨f, fd, S⟩ := T.d_l_takes
  refine Df.mk' (k := 0) S sc_l_takes (fun vs H Q E h => ?_) (fun cdv A outer s H vs Q E hgd hr h => ?_)
  · obtain ⟨x, D, L, r, sp, w, ld, G, rfl, _⟩ := h
    rfl
  · obtain ⟨x, D, L, r, sp, wf, ld, G, rfl, sm, dr, hD, kn, hL, ll, k⟩ := h
    have hu := hu_of hr
    have big : (3000 : Nat) ≤ sizeLine := by decide
    have fN : freshP (keysA ld) (mapA ld) (keysA ld) wf r = none → ∀ H', Same H H' → Q .non H' := fun e => by
      rw [e] at k
      exact k
    have fS : ∀ R, freshP (keysA ld) (mapA ld) (keysA ld) wf r = some R → Once (keysA ld) R → ∀ g H', Same H H' → H g = none → H' g = some (.lst (R.map V.int)) → Q (.ref g) H' := fun R e => by
      rw [e] at k
      exact k
    clear k
    obtain ⟨t, rfl, sq⟩ := row_at dr
    refine ⟨_, (pss_cons (ps_par3 (i := 3) (j := 4) (l := 5) (by rfl) sc_l_takes.nd rfl rfl rfl (by decide) (by decide) (by decide) rfl rfl rfl (pa_cons (pe_dget hu (pv 1) (pe_ix ix_tup (pv 0) pe_int (fun _ _ => rfl)) (fun _ _ => rfl)) (pa_cons (pe_dget hu (pv 1) (pe_ix ix_tup (pv 0) pe_int (fun _ _ => rfl)) (fun _ _ => rfl)) (pa_cons (pe_lst pa_nil) pa_nil))) (by rfl))
      (pss_cons (ps_if (pt_cmpR op_eq (pe_ix ix_tup (pv 0) pe_int (fun _ _ => rfl)) pe_str (nomark _)) (pss_one (ps_ret (pe_ifExp (PW.pt (pw_and (pt_cmp (pc_din hu (pv 3) (pv 2))) (pw_and1 (pt_cmpR op_eq (pe_dget hu (pv 2) (pv 3) (fun _ _ => rfl)) (pv 4) (nomark _))))) (pe_lst (pa_cons (pv 3) pa_nil)) pe_non))) pss_nil)
      (pss_cons (ps_while PassesOwn.never (pt_cmpR op_ne (pv 3) (pv 4) (nomark _)) (pss_cons (ps_if (PW.pt (pw_or (pt_cmp (pc_dnotin hu (pv 3) (pv 2))) (pw_or1 (pt_cmpR op_in_seq (pv 3) (pv 5) (by rfl))))) (pss_one (ps_ret pe_non)) pss_nil)
      (pss_cons (ps_expr (pe_bm PySem.F.plainAttrs_list PySem.F.slot_list_append PySem.F.type_list_append mt_append (pv 5) (pa_cons (pv 3) pa_nil)))
      (pss_one (ps_set (i := 3) sc_l_takes.nd rfl (.inl rfl) (pe_dget hu (pv 2) (pv 3) (fun _ _ => rfl)))))))
      (pss_one (ps_ret (pv 5)))))), ?_⟩
    refine ⟨_, rfl, _, rfl, t, _, 1, _, rfl, rfl, sameT sm sq, rfl, D, _, rfl, kn_get hD kn.1, _, rfl, _, rfl, t, _, 2, _, rfl, rfl, sameT sm sq, rfl, D, _, rfl, kn_get hD kn.2, Nat.zero_le _, fun fr hfr => ⟨_, _, _, rfl, ?_⟩⟩
    dsimp only [gName, List.set]
    have q2 := sameAdd (o := .lst []) hfr
    have f2 : (upd H fr (.lst [])) fr = some (.lst (([] : List Int).map V.int)) := upd_same
    generalize upd H fr (.lst []) = Hy at q2 f2 ⊢
    have getd : ∀ {Hz : Hp}, Same H Hz → ∀ kk, DGet Hz L (.int kk) ((getA ld kk).map V.int) := fun s' kk => dgetI (f := V.int) (s' _ _ hL) kk
    refine ⟨_, rfl, t, _, 0, _, rfl, rfl, sameT (sm.trans q2) sq, rfl, rfl, _, rfl, ?_⟩
    rw [str_eq]
    refine iteD (fun hc => ?_) (fun hc => ?_)
    · have pc : freshP (keysA ld) (mapA ld) (keysA ld) wf r = (if wf r.2.1 ∈ keysA ld ∧ mapA ld (wf r.2.1) = wf r.2.2 then some [wf r.2.1] else none) := by
        unfold freshP
        rw [if_pos hc]
      refine ⟨_, rfl, _, rfl, L, _, rfl, getd q2 _, _, rfl, ?_⟩
      rw [isA]
      refine iteD (fun h1 => ?_) (fun h1 => if_no rfl (fN (by rw [pc, if_neg (fun z => h1 z.1)]) Hy q2))
      have dg : DGet Hy L (.int (wf r.2.1)) (some (.int (mapA ld (wf r.2.1)))) := by
        have := getd q2 (wf r.2.1)
        rw [map_of h1] at this
        exact this
      refine ⟨_, rfl, _, rfl, L, _, rfl, dg, _, rfl, rfl, _, rfl, ?_⟩
      rw [int_eq]
      refine iteD (fun h2 => ?_) (fun h2 => fN (by rw [pc, if_neg (fun z => h2 z.2)]) Hy q2)
      refine ⟨_, rfl, by show 1 ≤ sizeLine; decide, fun g hg => ?_⟩
      exact fS [wf r.2.1] (by rw [pc, if_pos ⟨h1, h2⟩]) ⟨by simp, fun x m => by rw [List.mem_singleton.mp m]; exact h1⟩ g _ (q2.trans (sameAdd hg)) (q2.free hg) upd_same
    · have pc : freshP (keysA ld) (mapA ld) (keysA ld) wf r = roadF (keysA ld) (mapA ld) (wf r.2.2) (wf r.2.1) [] := by
        unfold freshP
        rw [if_neg hc]
      rw [pc] at fN fS
      refine ⟨fun m σ H3 => ∃ (ha : Int) (R : List Int), σ = [some (.ref t), some (.ref D), some (.ref L), some (.int ha), some (.int (wf r.2.2)), some (.ref fr)] ∧ m = msr (keysA ld) R ∧ Once (keysA ld) R ∧ Same H H3 ∧ H3 fr = some (.lst (R.map V.int)) ∧
          roadF (keysA ld) (mapA ld) (wf r.2.2) (wf r.2.1) [] = roadF (keysA ld) (mapA ld) (wf r.2.2) ha R,
        ⟨_, wf r.2.1, [], rfl, rfl, Once.nil, q2, f2, rfl⟩, ?_⟩
      clear q2 f2
      rintro m σ H3 ⟨ha, R, rfl, rfl, onR, q3, f3, rd⟩
      refine ⟨_, rfl, _, rfl, rfl, _, rfl, ?_⟩
      rw [int_ne]
      refine iteND (fun hne => ?_) (fun heq => ?_)
      · refine ⟨fun σ H4 => ∃ (ha : Int) (R2 : List Int), σ = [some (.ref t), some (.ref D), some (.ref L), some (.int ha), some (.int (wf r.2.2)), some (.ref fr)] ∧ msr (keysA ld) R2 < msr (keysA ld) R ∧ Once (keysA ld) R2 ∧ Same H H4 ∧ H4 fr = some (.lst (R2.map V.int)) ∧
            roadF (keysA ld) (mapA ld) (wf r.2.2) (wf r.2.1) [] = roadF (keysA ld) (mapA ld) (wf r.2.2) ha R2,
          fun σ H4 ⟨hc, R2, e1, lt, r⟩ => ⟨_, lt, hc, R2, e1, rfl, r⟩, ?_⟩
        have no : ¬ (ha ∈ keysA ld ∧ ¬ ha ∈ R) → Q .non H3 := fun hn => fN (by rw [rd, roadF_no hne hn]) H3 q3
        refine ⟨_, rfl, _, rfl, L, _, rfl, getd q3 ha, _, rfl, ?_⟩
        rw [isA]
        refine iteND (fun h1 => ?_) (fun h1 => ?_)
        · exact no fun q => h1 q.1
        · refine ⟨_, rfl, _, rfl, fr, _, rfl, .inl (SqL.of f3), rfl, flat_ints R, _, rfl, ?_⟩
          show if inV (.int ha) (R.map V.int) = true then _ else _
          rw [inV_int]
          refine iteD (fun h2 => ?_) (fun h2 => ?_)
          · exact no fun q => q.2 h2
          · have l40 := once_len onR
            refine ⟨_, rfl, .inl ⟨rfl, _, SqL.of f3⟩, _, rfl, fr, _, _, rfl, rfl, f3, by rw [List.length_map]; omega, ?_⟩
            have q4 : Same H (upd H3 fr (.lst (R.map V.int ++ [V.int ha]))) := sameOut q3 hfr
            have dg : DGet (upd H3 fr (.lst (R.map V.int ++ [V.int ha]))) L (.int ha) (some (.int (mapA ld ha))) := by
              have := getd q4 ha
              rw [map_of h1] at this
              exact this
            refine ⟨_, rfl, _, rfl, L, _, rfl, dg, ?_⟩
            refine ⟨_, R ++ [ha], rfl, msr_lt h1 h2, onR.snoc h1 h2, q4, by rw [upd_same, List.map_append]; rfl, ?_⟩
            rw [rd, roadF_on hne h1 h2]
      · exact ⟨_, rfl, fS R (by rw [rd, roadF_end heq]) onR fr H3 q3 hfr f3⟩
end
end L2.Hx

/-! Dealt, is_true. -/
namespace L2.Hx
open PySem PySem.Spec PyProof.Rows
def laidO (n : Nat) : Option (List Int) → Bool
  | none => false
  | some T => decide (T.length = n)
theorem dec_len {m n : Nat} : decide (V.int (m : Int) = V.int (n : Int)) = decide (m = n) := decide_eq_decide.mpr ⟨fun z => by have := vint z; omega, fun z => by rw [z]⟩
def spTrue (K : PySem.W.Frag) : Sp := fun vs H Q _ => ∃ (sa D L : Addr) (u : V) (lk pt : List Row) (sp : List (Str × Int)) (w : Str → Int) (ld : List (Int × Int)) (G : Hp), vs = [.ref sa, .ref D, .ref L] ∧ SqT K H sa [u] ∧ Same G H ∧ Da K G u (clD lk pt) ∧ H D = some (.dK (kvK Sum.inr V.int sp)) ∧ H L = some (.dK (kvK Sum.inl V.int ld)) ∧ (keysA ld).length ≤ 2000 ∧ (∀ r ∈ lk, Knw sp w r) ∧ (∀ r ∈ pt, Knw sp w r) ∧
  ∀ H', Same H H' → Q (.bl (laidO ld.length (takenF (keysA ld) (mapA ld) (keysA ld) w lk pt))) H'
section
variable {P : Program} {w : World} {K : PySem.W.Frag} {mg : Str → Option Value} {base : Heap}
theorem D_l_dealt (T : Txt K mg) : Df P w K mg base 2 "_law_dealt" ["clause", "worth", "cells"] (spDealt K) := by
  have D_l_is_so := D_l_is_so (P := P) (w := w) (base := base) T
  have D_l_takes := D_l_takes (P := P) (w := w) (base := base) T
  obtain ⟨f, fd, S⟩ := T.d_l_dealt
  refine Df.mk' (k := 1) S sc_l_dealt (fun vs H Q E h => ?_) (fun cdv A outer s H vs Q E hgd hr h => ?_)
  · obtain ⟨u, D, L, lk, pt, sp, w, ld, G, rfl, _⟩ := h
    rfl
  · obtain ⟨u, D, L, lk, pt, sp, wf, ld, G, rfl, sm, du, hD, hL, lw, knl, knp, k⟩ := h
    have hu := hu_of hr
    have big : (5000 : Nat) ≤ sizeLine := by decide
    have kno : takenF (keysA ld) (mapA ld) (keysA ld) wf lk pt = none → ∀ H', Same H H' → Q .non H' := fun e => by
      rw [e] at k
      exact k
    have kyes : ∀ T, takenF (keysA ld) (mapA ld) (keysA ld) wf lk pt = some T → ∀ g H', Same H H' → H g = none → H' g = some (.lst (T.map V.int)) → Q (.ref g) H' := fun T e => by
      rw [e] at k
      exact k
    clear k
    obtain ⟨a, vl, vp, rfl, hT, h1, h2⟩ := cl_at du
    obtain ⟨la, xs, rfl, sqL, hlen, hA⟩ := rows_at h1
    obtain ⟨pa, ys, rfl, sqP, plen, pA⟩ := rows_at h2
    refine ⟨_, (pss_cons (ps_set (i := 3) sc_l_dealt.nd rfl (.inr rfl) (pe_lst pa_nil))
      (pss_cons (ps_for PassesOwn.never rfl (pi_tup (pe_ix ix_tup (pv 0) pe_int (fun _ _ => rfl))) (pg_name (i := 4) sc_l_dealt.nd rfl (.inl rfl))
      (pss_one (ps_if (pt_not (pt_val (pe_d D_l_is_so hgd hr (pa_cons (pv 4) (pa_cons (pv 1) pa_nil))))) (pss_one (ps_ret pe_non)) pss_nil)))
      (pss_cons (ps_for PassesOwn.never rfl (pi_tup (pe_ix ix_tup (pv 0) pe_int (fun _ _ => rfl))) (pg_name (i := 5) sc_l_dealt.nd rfl (.inl rfl))
      (pss_cons (ps_set (i := 6) sc_l_dealt.nd rfl (.inl rfl) (pe_d D_l_takes hgd hr (pa_cons (pv 5) (pa_cons (pv 1) (pa_cons (pv 2) pa_nil)))))
      (pss_cons (ps_if (PW.pt (pw_or (pt_cmpR op_isN (pv 6) pe_non (nomark _)) (pw_or1 (pt_cmpR (op_neD hr.units) (pe_lc (X := (cxOf CX0 P w K mg base ["clause", "worth", "cells", "got", "look", "part", "taken", "own"] "_law_dealt" (defScope s_l_dealt) f cdv A outer s H E).nox) (own := [("own", 7)]) (g := gName 7) (tt := tTest (tOp (rIn K false) (tVar 7) (tVar 3))) (te := tC (.int 1)) rfl sc_l_dealt.nd (pi_list (pv 6)) (blkOk_by (own := [("own", 7)]) (N := ["clause", "worth", "cells", "got", "look", "part", "taken", "own"]) (sc := defScope s_l_dealt) (by decide +kernel)) (fun _ _ _ _ _ => pg_name (i := 7) sc_l_dealt.nd rfl (.inl rfl)) (fun _ _ _ _ _ => (pts_one (pt_cmpR op_in_seq (pv 7) (pv 3) (by rfl)))) (fun _ _ _ _ _ => pe_int)) (pe_lst pa_nil) (nomark _))))) (pss_one (ps_ret pe_non)) pss_nil)
      (pss_one (ps_set (i := 3) sc_l_dealt.nd rfl (.inr rfl) (pe_op op_cat (pv 3) (pv 6)))))))
      (pss_one (ps_ret (pv 3)))))), ?_⟩
    have drow : ∀ {t : Addr} {r : Row}, SqT K G t [.str r.1, .str r.2.1, .str r.2.2] → Da K G (.ref t) (lrowD r) := fun h => .tup h (.cons (.str _) (.cons (.str _) (.cons (.str _) .nil)))
    refine ⟨Nat.zero_le _, fun g0 hg0 => ?_⟩
    dsimp only [gName, List.set]
    have s1 := sameAdd (o := .lst []) hg0
    have g1 : (upd H g0 (.lst [])) g0 = some (.lst (([] : List Int).map V.int)) := upd_same
    generalize upd H g0 (.lst []) = H1 at s1 g1 ⊢
    have tkn : takenF (keysA ld) (mapA ld) (keysA ld) wf lk pt = if looksF wf lk = true then partsF (keysA ld) (mapA ld) (keysA ld) wf [] pt else none := rfl
    refine ⟨_, rfl, a, _, 0, _, rfl, rfl, sameT (sm.trans s1) hT, rfl, la, rfl, ⟨_, sameT (sm.trans s1) sqL⟩, for_tup (K := K) (a := la) (xs := xs) (fun i σ Hx => ∃ o4, σ = [some (.ref a), some (.ref D), some (.ref L), some (.ref g0), o4, none, none, none] ∧ Same H1 Hx ∧ looksF wf lk = looksF wf (lk.drop i)) ⟨none, rfl, Same.refl _, rfl⟩ (fun i σ Hx _ ⟨_, _, sx, _⟩ => sameT ((sm.trans s1).trans sx) sqL) ?_ ?_⟩
    · rintro i x σ Hx hx ⟨o4, rfl, sx, p2⟩
      obtain ⟨r, t, hr1, rfl, tT⟩ := hA i x hx
      rw [drop_row hr1] at p2
      have e2 : looksF wf (r :: lk.drop (i + 1)) = (lookF wf r && looksF wf (lk.drop (i + 1))) := rfl
      dsimp only [gName, List.set]
      refine ⟨_, rfl, _, rfl, .ref t, D, r, sp, wf, G, rfl, (sm.trans s1).trans sx, drow tT, sx _ _ (s1 _ _ hD), knl r (List.mem_of_getElem? hr1), _, rfl, iteNot (fun hb => ?_) (fun hb => ?_)⟩
      · refine kno ?_ Hx (s1.trans sx)
        rw [tkn, p2, e2, hb, Bool.false_and, if_neg Bool.false_ne_true]
      · rw [e2, hb, Bool.true_and] at p2
        exact ⟨_, rfl, sx, p2⟩
    rintro σ Hx ⟨o4, rfl, sx, p2⟩
    rw [hlen, List.drop_length] at p2
    have p2 : looksF wf lk = true := p2
    rw [tkn, if_pos p2] at kno kyes
    have s2 := s1.trans sx
    have g2 := sx _ _ g1
    clear p2 tkn sx s1 g1
    refine ⟨_, rfl, a, _, 1, _, rfl, rfl, sameT (sm.trans s2) hT, rfl, pa, rfl, ⟨_, sameT (sm.trans s2) sqP⟩, for_tup (K := K) (a := pa) (xs := ys) (fun i σ Hx => ∃ (g : Addr) (o4 o5 o6 o7 : Option V) (Tk : List Int), σ = [some (.ref a), some (.ref D), some (.ref L), some (.ref g), o4, o5, o6, o7] ∧ Same H Hx ∧ H g = none ∧ Hx g = some (.lst (Tk.map V.int)) ∧
        Once (keysA ld) Tk ∧ partsF (keysA ld) (mapA ld) (keysA ld) wf [] pt = partsF (keysA ld) (mapA ld) (keysA ld) wf Tk (pt.drop i))
      ⟨g0, _, _, _, _, [], rfl, s2, hg0, g2, Once.nil, rfl⟩ (fun i σ Hx _ ⟨_, _, _, _, _, _, _, q, _⟩ => sameT (sm.trans q) sqP) ?_ ?_⟩
    rotate_left 1
    · rintro σ Hx ⟨g, o4, o5, o6, o7, Tk, rfl, q1, hg, gx, on, pf⟩
      rw [plen, List.drop_length] at pf
      exact ⟨_, rfl, kyes Tk pf g Hx q1 hg gx⟩
    rintro i x σ Hy hx ⟨g, o4, o5, o6, o7, Tk, rfl, q1, hg, gx, on, pf⟩
    obtain ⟨r, t, hr1, rfl, tT⟩ := pA i x hx
    rw [drop_row hr1, partsF] at pf
    have bad : partP (keysA ld) (mapA ld) (keysA ld) wf Tk r = none → ∀ H', Same H H' → Q .non H' := fun e => by
      rw [e] at pf
      exact kno pf
    have fN : freshP (keysA ld) (mapA ld) (keysA ld) wf r = none → ∀ H', Same H H' → Q .non H' := fun e => bad (by
      rw [← lawP_eq]
      unfold lawP
      rw [e])
    have fS : ∀ R, freshP (keysA ld) (mapA ld) (keysA ld) wf r = some R → partP (keysA ld) (mapA ld) (keysA ld) wf Tk r = if ∃ x ∈ R, x ∈ Tk then none else some (Tk ++ R) := fun R e => by
      rw [← lawP_eq]
      unfold lawP
      rw [e]
    dsimp only [gName, List.set]
    refine ⟨_, rfl, _, rfl, _, rfl, .ref t, D, L, r, sp, wf, ld, G, rfl, sm.trans q1, drow tT, q1 _ _ hD, knp r (List.mem_of_getElem? hr1), q1 _ _ hL, lw, ?_⟩
    cases e : freshP (keysA ld) (mapA ld) (keysA ld) wf r with
    | none =>
      intro H2 s3
      dsimp only [gName, List.set]
      refine ⟨_, rfl, rfl, _, rfl, ?_⟩
      rw [decide_eq_true (show (V.non : V) = .non from rfl)]
      exact if_yes rfl (fN e H2 (q1.trans s3))
    | some R =>
      intro onR fr H2 s3 hfr f2
      have pS := fS R e
      have q2 := q1.trans s3
      have gx2 := s3 _ _ gx
      have l40 := once_len onR
      have l41 := once_len on
      dsimp only [gName, List.set]
      refine ⟨_, rfl, rfl, _, rfl, ?_⟩
      rw [decide_eq_false (show ¬ (V.ref fr : V) = .non from fun z => by cases z)]
      refine if_no rfl ?_
      refine ⟨_, rfl, fr, rfl, ⟨_, SqL.of f2⟩, fun L1 hL1 => lc_list (K := K) (a := fr) (xs := R.map V.int) (fun j Hz => Same H2 Hz ∧ ∃ n : Nat, Hz L1 = some (.lst ((List.replicate n (1 : Int)).map V.int)) ∧ n ≤ j ∧ (n = 0 ↔ ¬ ∃ x ∈ R.take j, x ∈ Tk))
        ⟨sameAdd hL1, 0, upd_same, Nat.le_refl _, ⟨fun _ ⟨x, m, _⟩ => absurd m List.not_mem_nil, fun _ => rfl⟩⟩ (fun j Hz _ h => SqL.of (h.1 _ _ f2)) ?_ ?_⟩
      · rintro j x Hz hx ⟨sz, n, lz, nle, iff⟩
        obtain ⟨z, hz, rfl⟩ : ∃ z, R[j]? = some z ∧ x = V.int z := by
          rw [List.getElem?_map] at hx
          obtain ⟨n, e, q⟩ := Option.map_eq_some_iff.mp hx
          exact ⟨n, e, q.symm⟩
        have jl := (List.getElem?_eq_some_iff.mp hz).1
        have tk : R.take (j + 1) = R.take j ++ [z] := by rw [List.take_add_one, hz]; rfl
        refine ⟨rfl, _, rfl, _, rfl, g, _, rfl, .inl (SqL.of (sz _ _ gx2)), rfl, flat_ints Tk, _, rfl, ?_⟩
        show if inV (.int z) (Tk.map V.int) = true then _ else _
        rw [inV_int]
        refine iteD (fun h1 => ?_) (fun h1 => ?_)
        · refine ⟨_, lz, by rw [List.length_map, List.length_replicate]; omega, sameOut sz hL1, n + 1, ?_, by omega, ?_⟩
          · rw [upd_same, List.replicate_succ', List.map_append]
            rfl
          · exact ⟨fun e => absurd e (Nat.succ_ne_zero n), fun e => absurd ⟨z, by rw [tk]; exact List.mem_append_right _ List.mem_cons_self, h1⟩ e⟩
        · refine ⟨sz, n, lz, Nat.le_succ_of_le nle, iff.trans ?_⟩
          rw [tk]
          refine not_congr ⟨fun ⟨x, m, y⟩ => ⟨x, List.mem_append_left _ m, y⟩, fun ⟨x, m, y⟩ => ?_⟩
          rcases List.mem_append.mp m with m | m
          · exact ⟨x, m, y⟩
          · rw [List.mem_singleton.mp m] at y
            exact absurd y h1
      · rintro Hz ⟨sz, n, lz, nle, iff⟩
        rw [List.length_map, List.take_length] at iff
        refine ⟨Nat.zero_le _, fun z0 hz0 => ?_⟩
        have sa := sz.trans (sameAdd (o := .lst []) hz0)
        have lza := sameAdd (o := .lst []) hz0 _ _ lz
        have zz : (upd Hz z0 (.lst [])) z0 = some (.lst []) := upd_same
        generalize upd Hz z0 (.lst []) = Ha at sa lza zz ⊢
        refine ⟨.list ((List.replicate n (1 : Int)).map PyData.int), .list [], .lst (SqL.of lza) (dp_ints _), .lst (SqL.of zz) .nil, shaped_ints _, rfl, _, rfl, ?_⟩
        rw [eqv_nil]
        refine iteNot (fun hz => ?_) (fun hz => ?_)
        · refine bad ?_ Ha (q2.trans sa)
          rw [pS, if_pos]
          refine Classical.byContradiction fun z => ?_
          rw [iff.mpr z] at hz
          cases hz
        · have n0 : n = 0 := by
            cases n with
            | zero => rfl
            | succ n => cases hz
          have dj := iff.mp n0
          rw [pS, if_neg dj] at pf
          refine ⟨_, rfl, _, rfl, g, fr, _, _, rfl, rfl, sa _ _ gx2, sa _ _ f2, by rw [List.length_map, List.length_map]; omega, fun g' hg' => ?_⟩
          have qa := q2.trans sa
          refine ⟨g', _, _, _, _, Tk ++ R, rfl, qa.trans (sameAdd hg'), qa.free hg', by rw [upd_same, List.map_append], ?_, pf⟩
          refine ⟨List.nodup_append.mpr ⟨on.1, onR.1, fun x hx y hy e => dj ⟨x, by rw [e]; exact hy, hx⟩⟩, fun x m => (List.mem_append.mp m).elim (on.2 x) (onR.2 x)⟩
theorem D_l_is_true (T : Txt K mg) : Df P w K mg base 3 "_law_is_true" ["saying", "worth", "cells"] (spTrue K) := by
  have D_l_dealt := D_l_dealt (P := P) (w := w) (base := base) T
  obtain ⟨f, fd, S⟩ := T.d_l_is_true
  refine Df.mk' (k := 2) S sc_l_is_true (fun vs H Q E h => ?_) (fun cdv A outer s H vs Q E hgd hr h => ?_)
  · obtain ⟨sa, D, L, u, lk, pt, sp, w, ld, G, rfl, _⟩ := h
    rfl
  · obtain ⟨sa, D, L, u, lk, pt, sp, wf, ld, G, rfl, sqs, sm, du, hD, hL, lw, knl, knp, k⟩ := h
    refine ⟨_, (pss_cons (ps_for PassesOwn.never rfl (pi_tup (pv 0)) (pg_name (i := 3) sc_l_is_true.nd rfl (.inl rfl))
      (pss_cons (ps_set (i := 4) sc_l_is_true.nd rfl (.inl rfl) (pe_d D_l_dealt hgd hr (pa_cons (pv 3) (pa_cons (pv 1) (pa_cons (pv 2) pa_nil)))))
      (pss_one (ps_if (PW.pt (pw_and (pt_cmpR op_notN (pv 4) pe_non (nomark _)) (pw_and1 (pt_cmpR op_eq (pe_callB call_len_seq (by rfl) T.b_len (by decide +kernel) (pa_cons (pv 4) pa_nil)) (pe_callB (call_lenD) (by rfl) T.b_len (by decide +kernel) (pa_cons (pv 2) pa_nil)) (nomark _))))) (pss_one (ps_ret pe_bl)) pss_nil))))
      (pss_one (ps_ret pe_bl))), ?_⟩
    refine ⟨_, rfl, sa, rfl, ⟨_, sqs⟩, for_tup (K := K) (a := sa) (xs := [u]) (fun n σ Hx => Same H Hx ∧ (n = 0 → σ = [some (.ref sa), some (.ref D), some (.ref L), none, none]) ∧ (0 < n → laidO ld.length (takenF (keysA ld) (mapA ld) (keysA ld) wf lk pt) = false)) ⟨Same.refl _, fun _ => rfl, fun z => absurd z (Nat.lt_irrefl _)⟩ (fun n σ Hx _ h => sameT h.1 sqs) ?_ ?_⟩
    · rintro n x σ Hx hx ⟨sx, h0, _⟩
      have n0 : n = 0 := by
        have := (List.getElem?_eq_some_iff.mp hx).1
        simp at this
        exact this
      subst n0
      cases hx
      rw [h0 rfl]
      dsimp only [gName, List.set]
      refine ⟨_, rfl, _, rfl, _, rfl, u, D, L, lk, pt, sp, wf, ld, G, rfl, sm.trans sx, du, sx _ _ hD, sx _ _ hL, lw, knl, knp, ?_⟩
      cases e : takenF (keysA ld) (mapA ld) (keysA ld) wf lk pt with
      | none =>
        intro H2 s2
        dsimp only [gName, List.set]
        refine ⟨_, rfl, rfl, _, rfl, ?_⟩
        rw [decide_eq_true (show (V.non : V) = .non from rfl)]
        exact if_no rfl (if_no rfl ⟨sx.trans s2, fun z => absurd z (Nat.succ_ne_zero 0), fun _ => rfl⟩)
      | some Tk =>
        intro g H2 s2 hg0 hg
        rw [e] at k
        dsimp only [gName, List.set]
        refine ⟨_, rfl, rfl, _, rfl, ?_⟩
        rw [decide_eq_false (show ¬ (V.ref g : V) = .non from fun z => by cases z)]
        refine if_yes rfl ⟨_, rfl, g, _, rfl, .inl (SqL.of hg), _, rfl, L, _, rfl, s2 _ _ (sx _ _ hL), rfl, _, rfl, ?_⟩
        rw [dec_len, kv_len, List.length_map]
        refine iteB (fun hb => ?_) (fun hb => ⟨sx.trans s2, fun z => absurd z (Nat.succ_ne_zero 0), fun _ => hb⟩)
        have := k H2 (sx.trans s2)
        rw [show laidO ld.length (some Tk) = true from hb] at this
        exact this
    · rintro σ Hx ⟨sx, _, h1⟩
      have := k Hx sx
      rw [h1 Nat.zero_lt_one] at this
      exact this
end
end L2.Hx

/-! The clause of a case, as the program tells it. -/
namespace L2.Hx
open PySem PySem.Spec PyProof.Rows
theorem un65 {k : Nat} {A : Around} (r : Room k A) : A.units + 65 < cLine := by
  have := r.un
  omega
theorem walk_gen {J : It} {n : Nat} {G : Hp → Prop} {Y : Nat → Hp → V → Hp → Prop} (w : Walk J n G Y) {B : V → Hp → (Hp → Prop) → Prop} {Qd : Hp → Prop} {H0 : Hp} (Pv : Nat → Hp → Prop) (h0 : Pv 0 H0) (hG : ∀ i H, i ≤ n → Pv i H → G H)
    (hs : ∀ i x H H', i < n → Pv i H → Y i H x H' → B x H' (Pv (i + 1))) (hd : ∀ H, Pv n H → Qd H) :
    ∃ W : Nat → Nat → Hp → Prop, (∃ m, W 0 m H0) ∧ ∀ i m H, W i m H → (J.stop i H ∧ Qd H) ∨ (J.go i H ∧ ∃ Nx : Hp → Prop, (∀ H', Nx H' → ∃ m', m' < m ∧ W (i + 1) m' H') ∧ ∀ x H', J.yld i H x H' → B x H' Nx) := by
  refine ⟨fun i m H => m = n - i ∧ i ≤ n ∧ Pv i H, ⟨n, by simp, Nat.zero_le _, h0⟩, ?_⟩
  rintro i m H ⟨rfl, hi, p⟩
  have q := hG i H hi p
  by_cases hlt : i < n
  · exact .inr ⟨w.goes i H hlt q, Pv (i + 1), fun H' p' => ⟨n - (i + 1), by omega, rfl, hlt, p'⟩, fun x H' y => hs i x H H' hlt p (w.yields i H x H' hlt q y)⟩
  · obtain rfl : i = n := by omega
    exact .inl ⟨w.stops H q, hd H p⟩
theorem shaped_tup {es : List PyData} (h : ∀ e ∈ es, Shp e) : SeqAt.shaped (.tuple es) = true := by
  obtain ⟨a, b⟩ := shp_all h
  unfold SeqAt.shaped
  rw [Bool.and_eq_true]
  refine ⟨by simpa [PyData.canLay0] using a, decide_eq_true ?_⟩
  simp only [PyData.depth]
  omega
theorem eqv_nilT (es : List PyData) : PyData.eqv (.tuple es) (.tuple []) = decide (es = []) := by
  cases es <;> simp [PyData.eqv, PyData.eqvAll]
theorem cutN (xs : List V) (i : Nat) : cutV xs (some (i : Int)) none = xs.drop i := by
  unfold cutV
  rw [HT.sIx_nat, HT.sIx_none]
  by_cases h : i ≤ xs.length
  · rw [Nat.min_eq_left h]
    exact List.take_of_length_le (by rw [List.length_drop]; exact Nat.le_refl _)
  · rw [Nat.min_eq_right (by omega), List.drop_eq_nil_of_le (Nat.le_refl _), List.drop_eq_nil_of_le (by omega)]
    exact List.take_nil
theorem ar_at {K : PySem.W.Frag} {G : Hp} {as : List V} {ars : List Ar} {i : Nat} {x : V} (h : DaAll K G as (ars.map arD)) (hx : as[i]? = some x) : ∃ a q, ars[i]? = some q ∧ x = .ref a ∧ SqT K G a [.int q.1, .str q.2.1, .int q.2.2] := by
  obtain ⟨d, e, da⟩ := h.get hx
  rw [List.getElem?_map] at e
  obtain ⟨q, e1, rfl⟩ := Option.map_eq_some_iff.mp e
  obtain ⟨a, xs, rfl, sq, da2⟩ := da.tupI
  cases da2 with
  | cons h1 t =>
    cases h1
    cases t with
    | cons h2 t =>
      cases h2
      cases t with
      | cons h3 t =>
        cases h3
        cases t
        exact ⟨a, q, e1, rfl, sq⟩
/-- a new key put behind -/
theorem daall_rows {K : PySem.W.Frag} {Hx : Hp} : ∀ {ts : List Addr} {rows : List Row}, Paired (fun (t : Addr) (r : Row) => Hx t = some (.tup [.str r.1, .str r.2.1, .str r.2.2])) ts rows → DaAll K Hx (ts.map V.ref) (rows.map lrowD)
  | _, _, .nil => .nil
  | _, _, .cons h t => .cons (.tup (SqT.of h) (.cons (.str _) (.cons (.str _) (.cons (.str _) .nil)))) (daall_rows t)
theorem words_eq : mergeK [] [(Sum.inr ("short" : Str), V.str "cell"), (Sum.inr ("long" : Str), V.str "list")] = kvK (Sum.inr : Str → Key) V.str [(("short" : Str), ("cell" : Str)), (("long" : Str), ("list" : Str))] := by
  have mm := merge_kv (ι := (Sum.inr : Str → Key)) (f := V.str) inr_inj [(("short" : Str), ("cell" : Str)), (("long" : Str), ("list" : Str))] [] (by decide +kernel)
  rw [List.nil_append] at mm
  exact mm
theorem no_whole {n : Nat} (h : 0 < n) : ¬ HT.sIx n 0 (some (1 : Int)) = 0 := fun e => by
  have := HT.sIx_nat n 0 1
  rw [Nat.min_eq_left (by omega)] at this
  exact absurd (this.symm.trans e) (by decide)
theorem shp_lot {ns : List Str} (shp : ∀ n ∈ ns, Shp (.str n)) {l : List Str} (h : ∀ n ∈ l, n ∈ ns) : Shp (.tuple (l.map .str)) := by
  have h2 : ∀ e ∈ l.map PyData.str, Shp e := fun e m => by
    obtain ⟨n, mn, rfl⟩ := List.mem_map.mp m
    exact shp n (h n mn)
  refine ⟨by simpa [PyData.canLay0] using (shp_all h2).1, ?_⟩
  have := depth_strs l
  simp only [PyData.depth]
  omega
theorem at_zero (x : V) (xs : List V) : atI (x :: xs) 0 = some x := atI_nat (j := 0) rfl
abbrev rowT (r : Row) : HO := .tup [.str r.1, .str r.2.1, .str r.2.2]
def RowsIn (Hx : Hp) (L : Addr) (rows : List Row) : Prop := ∃ ts : List Addr, Hx L = some (.lst (ts.map V.ref)) ∧ Paired (fun (t : Addr) (r : Row) => Hx t = some (rowT r)) ts rows
def RowsAt (H0 Hx : Hp) (B : Addr) (rows : List Row) : Prop := Same H0 Hx ∧ ∃ ts : List Addr, Hx B = some (.lst (ts.map V.ref)) ∧ Paired (fun (t : Addr) (r : Row) => t ≠ B ∧ Hx t = some (rowT r)) ts rows
theorem RowsIn.mono {Hx Hy : Hp} {L : Addr} {rows : List Row} (s : Same Hx Hy) (R : RowsIn Hx L rows) : RowsIn Hy L rows := by
  obtain ⟨ts, h, p⟩ := R
  exact ⟨ts, s _ _ h, paired_mpL p fun t r h => s _ _ h⟩
theorem RowsAt.in_ {H0 Hx : Hp} {B : Addr} {rows : List Row} (R : RowsAt H0 Hx B rows) : RowsIn Hx B rows := by
  obtain ⟨_, ts, h, p⟩ := R
  exact ⟨ts, h, paired_mpL p fun t r h => h.2⟩
theorem rows_start {H0 : Hp} {B : Addr} (hB : H0 B = none) : RowsAt H0 (upd H0 B (.lst [])) B [] := ⟨sameAdd hB, [], upd_same, .nil⟩
theorem rows_add {H0 Hx : Hp} {B : Addr} {rows : List Row} (hB : H0 B = none) (R : RowsAt H0 Hx B rows) {t : Addr} (ht : Hx t = none) (r : Row) :
    ∃ acc, (upd Hx t (rowT r)) B = some (.lst acc) ∧ acc.length = rows.length ∧ RowsAt H0 (upd (upd Hx t (rowT r)) B (.lst (acc ++ [.ref t]))) B (rows ++ [r]) := by
  obtain ⟨s, ts, h, p⟩ := R
  have n : t ≠ B := fun e => by rw [e, h] at ht; cases ht
  refine ⟨ts.map V.ref, sameAdd ht _ _ h, by rw [List.length_map]; exact Paired.length p, sameOut (s.trans (sameAdd ht)) hB, ts ++ [t], by rw [upd_same, List.map_append]; rfl, ?_⟩
  refine paired_snoc (paired_mpL p fun u q hq => ⟨hq.1, ?_⟩) ⟨n, by rw [upd_ne n, upd_same]⟩
  rw [upd_ne hq.1]
  exact sameAdd ht _ _ hq.2
theorem rows_keep {H0 Hx Hy : Hp} {B : Addr} {rows : List Row} (s : Same Hx Hy) (R : RowsAt H0 Hx B rows) : RowsAt H0 Hy B rows := by
  obtain ⟨s0, ts, h, p⟩ := R
  exact ⟨s0.trans s, ts, s _ _ h, paired_mpL p fun t r h => ⟨h.1, s _ _ h.2⟩⟩
theorem flat_len {α β : Type} {f : α → List β} {m : Nat} : ∀ {L : List α}, (∀ x ∈ L, (f x).length ≤ m) → (L.flatMap f).length ≤ m * L.length
  | [], _ => by simp
  | x :: L, h => by
    have h1 := h x List.mem_cons_self
    have h2 := flat_len (L := L) fun y my => h y (List.mem_cons_of_mem _ my)
    rw [List.flatMap_cons, List.length_append, List.length_cons, Nat.mul_add]
    omega
theorem rows_both {Hx : Hp} {A B : Addr} {r1 r2 : List Row} (R1 : RowsIn Hx A r1) (R2 : RowsIn Hx B r2) : ∃ xs ys, Hx A = some (.lst xs) ∧ Hx B = some (.lst ys) ∧ xs.length = r1.length ∧ ys.length = r2.length ∧ ∀ L, Hx L = none → RowsIn (upd Hx L (.lst (xs ++ ys))) L (r1 ++ r2) := by
  obtain ⟨ts, h1, p1⟩ := R1
  obtain ⟨us, h2, p2⟩ := R2
  exact ⟨_, _, h1, h2, by rw [List.length_map]; exact Paired.length p1, by rw [List.length_map]; exact Paired.length p2, fun L hL => ⟨ts ++ us, by rw [upd_same, List.map_append], paired_append (paired_mpL p1 fun t r h => sameAdd hL _ _ h) (paired_mpL p2 fun t r h => sameAdd hL _ _ h)⟩⟩
/-! the clause of a case, over plain lists -/
def fstC (c : Cs) : List Str := "nil" :: (c.1.drop 1).map fun l => l.headD "nil"
def wordK (k : Str) : Str := if k = "short" then "cell" else "list"
def lkA (c : Cs) : List Row := (c.1.headD []).map fun n => ("is", n, "nil")
def lkB (c : Cs) : List Row := (c.1.drop 1).flatMap fun l => (l.drop 1).map fun n => ("is", l.headD "nil", n)
def lkD (c : Cs) : List Row := ((fstC c).drop 1).map fun f => ("isnt", f, "nil")
def lkE (fs : List Str) (i : Nat) : List Row := if i = 0 then [] else (fs.drop (i + 1)).map fun o => ("isnt", fs.getD i "nil", o)
def lkC (c : Cs) : List Row := lkA c ++ lkB c ++ lkD c ++ (List.range (fstC c).length).flatMap (lkE (fstC c))
def ptC (c : Cs) : List Row := c.2.map fun q => (wordK q.2.1, (fstC c).getD q.1.toNat "nil", (fstC c).getD q.2.2.toNat "nil")
abbrev Bare (c : Cs) : Prop := ([] : List Str) ∈ c.1.drop 1
def spClause (K : PySem.W.Frag) (C : Addr) : Sp := fun vs H Q E => ∃ (n v : V) (G : Hp) (ns : List Str) (c : Cs), vs = [n, v] ∧ Same G H ∧ Da K G v (caseD c) ∧ CaseOk ns c ∧ ns.length ≤ 8 ∧ (∀ n ∈ ns, Shp (.str n)) ∧
  (Bare c → ∀ H', Same H H' → E (.ref C) none H') ∧ (¬ Bare c → ∀ (z : V) (H' : Hp), Same H H' → Da K H' z (clD (lkC c) (ptC c)) → Q z H')
section
variable {P : Program} {w : World} {K : PySem.W.Frag} {mg : Str → Option Value} {base : Heap}
theorem D_clause_of (T : Txt K mg) {C : Addr} (hU : OwnExc K mg "Unfit" C) : DfX P w K mg base 1 "clause_of" s_clause_of ["names", "case"] (spClause K C) := by
  obtain ⟨f, fd, S⟩ := T.d_clause_of
  refine DfX.mk' (k := 0) S sc_clause_of (fun vs H Q E h => ?_) (fun cdv A outer s H vs Q E hgd hr h => ?_)
  · obtain ⟨n, v, G, ns, c, rfl, _⟩ := h
    rfl
  · obtain ⟨n, v, G, ns, c, rfl, sm, da, ok, l8, shp, kE, k⟩ := h
    have hu := hu_of hr
    have big : (5000 : Nat) ≤ sizeLine := by decide
    have tkE : Takes (cxOf (L2.CX P w) P w K mg base ["names", "case", "lots", "arrows", "firsts", "lot", "looks", "name", "first", "at", "other", "words", "begin", "kind", "end"] "clause_of" (defScope s_clause_of) f cdv A outer s H E) (fun cls d _ H => E cls d H) := takes_of rfl rfl rfl rfl
    refine ⟨_, (pss_cons (ps_asg (pv 1) (pg_tup rfl (pgs_cons (pg_name (i := 2) sc_clause_of.nd rfl (.inl rfl)) (pgs_cons (pg_name (i := 3) sc_clause_of.nd rfl (.inl rfl)) pgs_nil))))
      (pss_cons (ps_if (pt_cmpR (op_inT (un65 hr)) (pe_tup pa_nil) (pe_slice sl_tupA (pv 2) (po_some pe_int) po_none) (by rfl)) (pss_one (ps_raise0 rfl tkE hU)) pss_nil)
      (pss_cons (ps_set (i := 4) sc_clause_of.nd rfl (.inr rfl) (pe_op op_cat (pe_lst (pa_cons pe_str pa_nil)) (pe_lc (X := (cxOf (L2.CX P w) P w K mg base ["names", "case", "lots", "arrows", "firsts", "lot", "looks", "name", "first", "at", "other", "words", "begin", "kind", "end"] "clause_of" (defScope s_clause_of) f cdv A outer s H E)) (own := [("lot", 5)]) (te := tOp (rIxT K) (tVar 5) (tC (.int 0))) (g := gName 5) (tt := tYes) rfl sc_clause_of.nd (pi_tup (pe_slice sl_tupA (pv 2) (po_some pe_int) po_none)) (blkOk_by (own := [("lot", 5)]) (N := ["names", "case", "lots", "arrows", "firsts", "lot", "looks", "name", "first", "at", "other", "words", "begin", "kind", "end"]) (sc := defScope s_clause_of) (by decide +kernel)) (fun _ _ _ _ _ => pg_name (i := 5) sc_clause_of.nd rfl (.inl rfl)) (fun _ _ _ _ _ => pts_nil) (fun _ _ _ _ _ => (pe_ix ix_tup (pv 5) pe_int (fun _ _ => rfl))))))
      (pss_cons (ps_setLc (i := 6) (X := (cxOf (L2.CX P w) P w K mg base ["names", "case", "lots", "arrows", "firsts", "lot", "looks", "name", "first", "at", "other", "words", "begin", "kind", "end"] "clause_of" (defScope s_clause_of) f cdv A outer s H E)) (own := [("name", 7)]) (te := tTup (tCons (tC (.str "is")) (tCons (tVar 7) (tCons (tC (.str "nil")) tNil)))) (g := gName 7) (tt := tYes) rfl sc_clause_of.nd rfl rfl (sw_true rfl rfl rfl (by decide +kernel)) (pi_tup (pe_ix ix_tup (pv 2) pe_int (fun _ _ => rfl))) (blkOk_by (own := [("name", 7)]) (N := ["names", "case", "lots", "arrows", "firsts", "lot", "looks", "name", "first", "at", "other", "words", "begin", "kind", "end"]) (sc := defScope s_clause_of) (by decide +kernel)) (fun _ _ _ _ _ => pg_name (i := 7) sc_clause_of.nd rfl (.inl rfl)) (fun _ _ _ _ _ => pts_nil) (fun _ _ _ _ _ => (pe_tup (pa_cons pe_str (pa_cons (pv 7) (pa_cons pe_str pa_nil))))))
      (pss_cons (ps_set (i := 6) sc_clause_of.nd rfl (.inl rfl) (pe_op op_cat (pv 6) (pe_lc2 (X := (cxOf (L2.CX P w) P w K mg base ["names", "case", "lots", "arrows", "firsts", "lot", "looks", "name", "first", "at", "other", "words", "begin", "kind", "end"] "clause_of" (defScope s_clause_of) f cdv A outer s H E)) (own := [("lot", 5), ("name", 7)]) (wi1 := iTup K (tSl (rSlA K) (tVar 5) (tPart (tC (.int 1))) tNoPart)) (te := tTup (tCons (tC (.str "is")) (tCons (tOp (rIxT K) (tVar 5) (tC (.int 0))) (tCons (tVar 7) tNil)))) (vs1 := [7]) (g := gName 5) (g1 := gName 7) (tt := tYes) (tt1 := tYes) rfl sc_clause_of.nd (pi_tup (pe_slice sl_tupA (pv 2) (po_some pe_int) po_none)) (blkOk_by (own := [("lot", 5), ("name", 7)]) (N := ["names", "case", "lots", "arrows", "firsts", "lot", "looks", "name", "first", "at", "other", "words", "begin", "kind", "end"]) (sc := defScope s_clause_of) (by decide +kernel)) (by decide) (fun _ _ _ _ _ => pg_name (i := 5) sc_clause_of.nd rfl (.inl rfl)) (fun _ _ _ _ _ => pts_nil) (fun _ _ _ _ _ => (pi_tup (pe_slice sl_tupA (pv 5) (po_some pe_int) po_none))) (fun _ _ _ _ _ => pg_name (i := 7) sc_clause_of.nd rfl (.inl rfl)) (fun _ _ _ _ _ => pts_nil) (fun _ _ _ _ _ => (pe_tup (pa_cons pe_str (pa_cons (pe_ix ix_tup (pv 5) pe_int (fun _ _ => rfl)) (pa_cons (pv 7) pa_nil))))))))
      (pss_cons (ps_set (i := 6) sc_clause_of.nd rfl (.inl rfl) (pe_op op_cat (pv 6) (pe_lc (X := (cxOf (L2.CX P w) P w K mg base ["names", "case", "lots", "arrows", "firsts", "lot", "looks", "name", "first", "at", "other", "words", "begin", "kind", "end"] "clause_of" (defScope s_clause_of) f cdv A outer s H E)) (own := [("first", 8)]) (te := tTup (tCons (tC (.str "isnt")) (tCons (tVar 8) (tCons (tC (.str "nil")) tNil)))) (g := gName 8) (tt := tYes) rfl sc_clause_of.nd (pi_list (pe_slice sl_list (pv 4) (po_some pe_int) po_none)) (blkOk_by (own := [("first", 8)]) (N := ["names", "case", "lots", "arrows", "firsts", "lot", "looks", "name", "first", "at", "other", "words", "begin", "kind", "end"]) (sc := defScope s_clause_of) (by decide +kernel)) (fun _ _ _ _ _ => pg_name (i := 8) sc_clause_of.nd rfl (.inl rfl)) (fun _ _ _ _ _ => pts_nil) (fun _ _ _ _ _ => (pe_tup (pa_cons pe_str (pa_cons (pv 8) (pa_cons pe_str pa_nil))))))))
      (pss_cons (ps_for (passes_of rfl) rfl (pi_enum rfl T.b_enumerate (pa_cons (pv 4) pa_nil)) (pg_tup rfl (pgs_cons (pg_name (i := 9) sc_clause_of.nd rfl (.inl rfl)) (pgs_cons (pg_name (i := 8) sc_clause_of.nd rfl (.inr rfl)) pgs_nil)))
      (pss_one (ps_if (pt_cmpR op_gt (pv 9) pe_int (nomark _)) (pss_one (ps_set (i := 6) sc_clause_of.nd rfl (.inl rfl) (pe_op op_cat (pv 6) (pe_lc (X := (cxOf (L2.CX P w) P w K mg base ["names", "case", "lots", "arrows", "firsts", "lot", "looks", "name", "first", "at", "other", "words", "begin", "kind", "end"] "clause_of" (defScope s_clause_of) f cdv A outer s H E)) (own := [("other", 10)]) (te := tTup (tCons (tC (.str "isnt")) (tCons (tVar 8) (tCons (tVar 10) tNil)))) (g := gName 10) (tt := tYes) rfl sc_clause_of.nd (pi_list (pe_slice sl_list (pv 4) (po_some (pe_op op_add (pv 9) pe_int)) po_none)) (blkOk_by (own := [("other", 10)]) (N := ["names", "case", "lots", "arrows", "firsts", "lot", "looks", "name", "first", "at", "other", "words", "begin", "kind", "end"]) (sc := defScope s_clause_of) (by decide +kernel)) (fun _ _ _ _ _ => pg_name (i := 10) sc_clause_of.nd rfl (.inl rfl)) (fun _ _ _ _ _ => pts_nil) (fun _ _ _ _ _ => (pe_tup (pa_cons pe_str (pa_cons (pv 8) (pa_cons (pv 10) pa_nil))))))))) pss_nil)))
      (pss_cons (ps_set (i := 11) sc_clause_of.nd rfl (.inr rfl) (pe_disp (pps_cons pe_str pe_str (pps_cons pe_str pe_str pps_nil)) (by rfl) (by rfl) (fun z => by cases z) (by decide)))
      (pss_one (ps_ret (pe_tup (pa_cons (pe_callTy call_tuple_of (by rfl) T.b_tuple (by decide +kernel) (pa_cons (pv 6) pa_nil)) (pa_cons (pe_callTy call_tuple_of (by rfl) T.b_tuple (by decide +kernel) (pa_cons (pe_lc (X := (cxOf (L2.CX P w) P w K mg base ["names", "case", "lots", "arrows", "firsts", "lot", "looks", "name", "first", "at", "other", "words", "begin", "kind", "end"] "clause_of" (defScope s_clause_of) f cdv A outer s H E)) (own := [("begin", 12), ("kind", 13), ("end", 14)]) (g := gTup K 3 (gCons (gName 12) (gCons (gName 13) (gCons (gName 14) gNil)))) (te := tTup (tCons (tDGet (tVar 11) (tVar 13)) (tCons (tOp (rIxL K) (tVar 4) (tVar 12)) (tCons (tOp (rIxL K) (tVar 4) (tVar 14)) tNil)))) (tt := tYes) rfl sc_clause_of.nd (pi_tup (pv 3)) (blkOk_by (own := [("begin", 12), ("kind", 13), ("end", 14)]) (N := ["names", "case", "lots", "arrows", "firsts", "lot", "looks", "name", "first", "at", "other", "words", "begin", "kind", "end"]) (sc := defScope s_clause_of) (by decide +kernel)) (fun _ _ _ _ _ => pg_tup rfl (pgs_cons (pg_name (i := 12) sc_clause_of.nd rfl (.inl rfl)) (pgs_cons (pg_name (i := 13) sc_clause_of.nd rfl (.inl rfl)) (pgs_cons (pg_name (i := 14) sc_clause_of.nd rfl (.inl rfl)) pgs_nil)))) (fun _ _ _ _ _ => pts_nil) (fun _ _ _ _ _ => (pe_tup (pa_cons (pe_dget hu (pv 11) (pv 13) (fun _ _ => rfl)) (pa_cons (pe_ix ix_list (pv 4) (pv 12) (fun _ _ => rfl)) (pa_cons (pe_ix ix_list (pv 4) (pv 14) (fun _ _ => rfl)) pa_nil)))))) pa_nil)) pa_nil))))))))))))), ?_⟩
    obtain ⟨a, b1, b2, ls, as, rfl, sa, sb1, dls, sb2, das⟩ := da_case da
    have lls : ls.length = c.1.length := by rw [dls.length, List.length_map]
    have l60 := ok.len
    have al := ok.alen
    have p0 := ok.pos
    refine ⟨_, rfl, a, _, rfl, sameT sm sa, rfl, _, _, rfl, _, _, rfl, rfl, ?_⟩
    dsimp only [gName, List.set]
    refine ⟨by show 0 ≤ sizeLine; exact Nat.zero_le _, fun e0 h0 => ⟨_, rfl, _, rfl, ?_⟩⟩
    have s1 := sameAdd (o := .tup []) h0
    have e01 : (upd H e0 (.tup [])) e0 = some (.tup []) := upd_same
    generalize upd H e0 (.tup []) = H1 at s1 e01 ⊢
    refine ⟨b1, ls, rfl, sameT (sm.trans s1) sb1, fun e => absurd e.1 (no_whole (by omega)), fun _ p2 hp2 => ?_⟩
    rw [cut1 (by omega)]
    have s2 := s1.trans (sameAdd (o := .tup (ls.drop 1)) hp2)
    have e02 := sameAdd (o := .tup (ls.drop 1)) hp2 _ _ e01
    have p22 : (upd H1 p2 (.tup (ls.drop 1))) p2 = some (.tup (ls.drop 1)) := upd_same
    generalize upd H1 p2 (.tup (ls.drop 1)) = H2 at s2 e02 p22 ⊢
    have mem : ∀ l ∈ c.1, ∀ n ∈ l, n ∈ ns := fun l m n mn => ok.perm.mem_iff.mp (List.mem_flatten.mpr ⟨l, m, mn⟩)
    have shl : ∀ e ∈ (c.1.drop 1).map (fun l => PyData.tuple (l.map .str)), Shp e := fun e m => by
      obtain ⟨l, ml, rfl⟩ := List.mem_map.mp m
      exact shp_lot shp fun n mn => mem l (List.mem_of_mem_drop ml) n mn
    have dl1 : DaAll K G (ls.drop 1) ((c.1.drop 1).map fun l => PyData.tuple (l.map .str)) := by
      rw [List.map_drop]
      exact dls.drop 1
    have eBare : (((c.1.drop 1).map fun l => PyData.tuple (l.map .str)).any fun z => PyData.eqv z (.tuple [])) = decide (Bare c) := by
      rw [List.any_map]
      unfold Bare
      rw [Bool.eq_iff_iff, List.any_eq_true, decide_eq_true_eq]
      constructor
      · rintro ⟨l, ml, e⟩
        have e : PyData.eqv (.tuple (l.map .str)) (.tuple []) = true := e
        rw [eqv_nilT, decide_eq_true_eq] at e
        rw [List.map_eq_nil_iff.mp e] at ml
        exact ml
      · exact fun m => ⟨[], m, by show PyData.eqv (.tuple (([] : List Str).map .str)) (.tuple []) = true; rw [eqv_nilT]; rfl⟩
    have dp0 : Dp K H2 (.ref e0) (.tuple []) := .tup (SqT.of e02) .nil
    have dp1 : Dp K H2 (.ref p2) (.tuple ((c.1.drop 1).map fun l => PyData.tuple (l.map .str))) := .tup (SqT.of p22) (dl1.dp (sm.trans s2) (shp_all shl).1)
    refine ⟨.tuple [], _, dp0, dp1, by decide +kernel, shaped_tup shl, _, rfl, ?_⟩
    rw [eBare]
    refine iteD (fun hB => kE hB _ s2) (fun hB => ?_)
    clear eBare dp0 dp1 e01 e02 p22 h0 hp2 dl1 shl
    have lotAt : ∀ (i : Nat) (x : V), (ls.drop 1)[i]? = some x → ∃ (t : Addr) (l : List Str), x = V.ref t ∧ (c.1.drop 1)[i]? = some l ∧ l ≠ [] ∧ SqT K G t (l.map V.str) := fun i x hx => by
      rw [List.getElem?_drop] at hx
      obtain ⟨t, l, hl, rfl, sl⟩ := da_lot dls hx
      have hl2 : (c.1.drop 1)[i]? = some l := by rw [List.getElem?_drop]; exact hl
      exact ⟨t, l, rfl, hl2, fun e => hB (show ([] : List Str) ∈ c.1.drop 1 from e ▸ List.mem_of_getElem? hl2), sl⟩
    have head0 : ∀ {l : List Str}, l ≠ [] → atI (l.map V.str) 0 = some (V.str (l.headD "nil")) := fun {l} h => by
      cases l with
      | nil => exact absurd rfl h
      | cons n r => exact at_zero _ _
    -- firsts
    refine ⟨by show 1 ≤ sizeLine; decide, fun q3 hq3 => ⟨_, rfl, _, rfl, b1, ls, rfl, sameT ((sm.trans s2).trans (sameAdd hq3)) sb1, fun e => absurd e.1 (no_whole (by omega)), fun _ p4 hp4 => ?_⟩⟩
    rw [cut1 (by omega)]
    have s4 := (sameAdd (o := .lst [V.str "nil"]) hq3).trans (sameAdd (o := .tup (ls.drop 1)) hp4)
    have q34 := sameAdd (o := .tup (ls.drop 1)) hp4 _ _ (show (upd H2 q3 (.lst [V.str "nil"])) q3 = some (.lst [V.str "nil"]) from upd_same)
    have p44 : (upd (upd H2 q3 (.lst [V.str "nil"])) p4 (.tup (ls.drop 1))) p4 = some (.tup (ls.drop 1)) := upd_same
    generalize upd (upd H2 q3 (.lst [V.str "nil"])) p4 (.tup (ls.drop 1)) = H4 at s4 q34 p44 ⊢
    have s04 := s2.trans s4
    clear hq3 hp4 s4 s2
    have ldr : (ls.drop 1).length = (c.1.drop 1).length := by rw [List.length_drop, List.length_drop, lls]
    have lls1 : (ls.drop 1).length ≤ 60 := by rw [List.length_drop]; omega
    refine ⟨p4, rfl, ⟨_, SqT.of p44⟩, fun B hB4 => lc_tup (K := K) (a := p4) (xs := ls.drop 1) (fun i Hx => Same H4 Hx ∧ Hx B = some (.lst ((((c.1.drop 1).take i).map fun l => l.headD "nil").map V.str))) ⟨sameAdd hB4, upd_same⟩ (fun i Hx _ h => SqT.of (h.1 _ _ p44)) ?_ ?_⟩
    · rintro i x Hx hx ⟨sx, lx⟩
      obtain ⟨t, l, rfl, hl, ne, sl⟩ := lotAt i x hx
      have tk : (c.1.drop 1).take (i + 1) = (c.1.drop 1).take i ++ [l] := by rw [List.take_add_one, hl]; rfl
      refine ⟨rfl, _, rfl, t, _, 0, _, rfl, rfl, sameT ((sm.trans s04).trans sx) sl, head0 ne, _, lx, ?_, sameOut sx hB4, ?_⟩
      · rw [List.length_map, List.length_map, List.length_take]
        have := (List.getElem?_eq_some_iff.mp hx).1
        omega
      · rw [upd_same, tk, List.map_append, List.map_append]
        rfl
    rintro H5 ⟨s5, lB⟩
    rw [ldr, List.take_length] at lB
    have q35 := s5 _ _ q34
    refine ⟨q3, B, [V.str "nil"], _, rfl, rfl, q35, lB, by rw [List.length_singleton, List.length_map, List.length_map, ← ldr]; omega, fun F hF => ?_⟩
    have s6 := sameAdd (o := .lst ([V.str "nil"] ++ ((c.1.drop 1).map fun l => l.headD "nil").map V.str)) hF
    have F6 : (upd H5 F (.lst ([V.str "nil"] ++ ((c.1.drop 1).map fun l => l.headD "nil").map V.str))) F = some (.lst ((fstC c).map V.str)) := upd_same
    generalize upd H5 F (.lst ([V.str "nil"] ++ ((c.1.drop 1).map fun l => l.headD "nil").map V.str)) = H6 at s6 F6 ⊢
    have s06 := s04.trans (s5.trans s6)
    clear s04 s5 s6 q34 q35 p44 lB hF hB4
    have lf : (fstC c).length = c.1.length := by
      unfold fstC
      rw [List.length_cons, List.length_map, List.length_drop]
      omega
    dsimp only [gName, List.set]
    -- looks: what is nil
    obtain ⟨v0, hv0⟩ : ∃ v0, ls[0]? = some v0 := ⟨_, List.getElem?_eq_getElem (by omega)⟩
    obtain ⟨t0, l0, hl0, rfl, sl0⟩ := da_lot dls hv0
    have el0 : c.1.headD [] = l0 := by
      cases hc : c.1 with
      | nil => rw [hc] at hl0; cases hl0
      | cons x r => rw [hc] at hl0; exact Option.some.inj hl0
    have l0len : l0.length ≤ 8 := by
      have h1 := (List.sublist_flatten_of_mem (List.mem_of_getElem? hl0)).length_le
      have h2 := ok.perm.length_eq
      omega
    have at0 : atI ls 0 = some (V.ref t0) := by
      cases hc : ls with
      | nil => rw [hc] at hv0; cases hv0
      | cons x r =>
        rw [hc] at hv0
        rw [at_zero]
        exact hv0
    refine ⟨_, rfl, b1, ls, 0, V.ref t0, rfl, rfl, sameT (sm.trans s06) sb1, at0, t0, rfl, ⟨_, sameT (sm.trans s06) sl0⟩, fun B hB6 => lc_tup (K := K) (a := t0) (xs := l0.map V.str) (fun i Hx => RowsAt H6 Hx B ((l0.take i).map fun n => (("is" : Str), n, ("nil" : Str)))) (rows_start hB6) (fun i Hx _ h => sameT ((sm.trans s06).trans h.1) sl0) ?_ ?_⟩
    · rintro i x Hx hx R
      rw [List.getElem?_map] at hx
      obtain ⟨n, hn, rfl⟩ := Option.map_eq_some_iff.mp hx
      have tk : l0.take (i + 1) = l0.take i ++ [n] := by rw [List.take_add_one, hn]; rfl
      refine ⟨rfl, _, rfl, by show 3 ≤ sizeLine; decide, fun t ht => ?_⟩
      obtain ⟨acc, h1, h2, h3⟩ := rows_add hB6 R ht (("is" : Str), n, ("nil" : Str))
      refine ⟨acc, h1, ?_, by rw [tk, List.map_append]; exact h3⟩
      rw [h2, List.length_map, List.length_take]
      omega
    rintro H7 R7
    rw [List.length_map, List.take_length] at R7
    have s67 := R7.1
    have R7 : RowsIn H7 B (lkA c) := by
      unfold lkA
      rw [el0]
      exact R7.in_
    have s07 := s06.trans s67
    have F7 := s67 _ _ F6
    dsimp only [gName, List.set]
    -- .. the other names of each lot
    refine ⟨_, rfl, _, rfl, _, rfl, b1, ls, rfl, sameT (sm.trans s07) sb1, fun e => absurd e.1 (no_whole (by omega)), fun _ p8 hp8 => ?_⟩
    rw [cut1 (by omega)]
    have s8 := sameAdd (o := .tup (ls.drop 1)) hp8
    have p88 : (upd H7 p8 (.tup (ls.drop 1))) p8 = some (.tup (ls.drop 1)) := upd_same
    have R8 := R7.mono s8
    have F8 := s8 _ _ F7
    generalize upd H7 p8 (.tup (ls.drop 1)) = H8 at s8 p88 R8 F8 ⊢
    have s08 := s07.trans s8
    clear hp8 s8
    refine ⟨p8, rfl, ⟨_, SqT.of p88⟩, fun D hD => walk_gen (walk_tup (K := K) (a := p8) (xs := ls.drop 1)) (fun i Hx => RowsAt H8 Hx D (((c.1.drop 1).take i).flatMap fun l => (l.drop 1).map fun n => (("is" : Str), l.headD "nil", n))) (rows_start hD) (fun i Hx _ h => SqT.of (h.1 _ _ p88)) ?_ ?_⟩
    · rintro i x Hw Hx hi R ⟨eH, hx⟩
      rw [← eH] at R
      obtain ⟨t, l, rfl, hl, ne, sl⟩ := lotAt i x hx
      have lpos : 0 < l.length := List.length_pos_iff.mpr ne
      have tk : (c.1.drop 1).take (i + 1) = (c.1.drop 1).take i ++ [l] := by rw [List.take_add_one, hl]; rfl
      refine ⟨rfl, _, rfl, _, rfl, t, l.map V.str, rfl, sameT ((sm.trans s08).trans R.1) sl, fun e => absurd e.1 (no_whole (by rw [List.length_map]; exact lpos)), fun _ p9 hp9 => ?_⟩
      rw [cut1 (by rw [List.length_map]; exact lpos), ← List.map_drop]
      have s9 := sameAdd (o := .tup ((l.drop 1).map V.str)) hp9
      have p99 : (upd Hx p9 (.tup ((l.drop 1).map V.str))) p9 = some (.tup ((l.drop 1).map V.str)) := upd_same
      have R9 := rows_keep s9 R
      generalize upd Hx p9 (.tup ((l.drop 1).map V.str)) = H9 at s9 p99 R9 ⊢
      have l8' : l.length ≤ 8 := by
        have h1 := (List.sublist_flatten_of_mem (List.mem_of_mem_drop (List.mem_of_getElem? hl))).length_le
        have h2 := ok.perm.length_eq
        omega
      have lfl : (((c.1.drop 1).take i).flatMap fun l => (l.drop 1).map fun n => (("is" : Str), l.headD "nil", n)).length ≤ 8 * 60 := by
        refine Nat.le_trans (flat_len (m := 8) fun x m => ?_) (Nat.mul_le_mul_left _ (by rw [List.length_take, List.length_drop]; omega))
        have h1 := (List.sublist_flatten_of_mem (List.mem_of_mem_drop (List.mem_of_mem_take m))).length_le
        have h2 := ok.perm.length_eq
        rw [List.length_map, List.length_drop]
        omega
      refine ⟨p9, rfl, ⟨_, SqT.of p99⟩, walk_gen (walk_tup (K := K) (a := p9) (xs := (l.drop 1).map V.str)) (fun j Hy => Hy p9 = some (.tup ((l.drop 1).map V.str)) ∧ RowsAt H8 Hy D ((((c.1.drop 1).take i).flatMap fun l => (l.drop 1).map fun n => (("is" : Str), l.headD "nil", n)) ++ ((l.drop 1).take j).map fun n => (("is" : Str), l.headD "nil", n))) ⟨p99, by rw [List.take_zero, List.map_nil, List.append_nil]; exact R9⟩ (fun j Hy _ h => SqT.of h.1) ?_ ?_⟩
      · rintro j y Hw2 Hy hj PR ⟨eH2, hy⟩
        rw [← eH2] at PR
        obtain ⟨sy, Ry⟩ := PR
        rw [List.getElem?_map] at hy
        obtain ⟨n, hn, rfl⟩ := Option.map_eq_some_iff.mp hy
        have tk2 : (l.drop 1).take (j + 1) = (l.drop 1).take j ++ [n] := by rw [List.take_add_one, hn]; rfl
        refine ⟨rfl, _, rfl, t, _, 0, _, rfl, rfl, sameT ((sm.trans s08).trans Ry.1) sl, head0 ne, _, rfl, by show 3 ≤ sizeLine; decide, fun tt htt => ?_⟩
        obtain ⟨acc, a1, a2, a3⟩ := rows_add hD Ry htt (("is" : Str), l.headD "nil", n)
        refine ⟨acc, a1, ?_, ?_, ?_⟩
        · rw [a2, List.length_append, List.length_map, List.length_take, List.length_drop]
          omega
        · have n : p9 ≠ D := fun e => by
            obtain ⟨_, ts, hD2, _⟩ := Ry
            rw [e, hD2] at sy
            cases sy
          rw [upd_ne n]
          exact sameAdd htt _ _ sy
        · rw [tk2, List.map_append, ← List.append_assoc]
          exact a3
      · rintro Hy ⟨sy, Ry⟩
        rw [List.length_map, List.take_length] at Ry
        show RowsAt H8 Hy D _
        rw [tk, List.flatMap_append, List.flatMap_singleton]
        exact Ry
    rintro H9 R9
    rw [ldr, List.take_length] at R9
    have R9 : RowsAt H8 H9 D (lkB c) := R9
    have s9 := R9.1
    have llB : (lkB c).length ≤ 480 := by
      refine Nat.le_trans (flat_len (m := 8) fun x m => ?_) (Nat.le_trans (Nat.mul_le_mul_left 8 (show (c.1.drop 1).length ≤ 60 by rw [List.length_drop]; omega)) (by decide))
      have h1 := (List.sublist_flatten_of_mem (List.mem_of_mem_drop m)).length_le
      have h2 := ok.perm.length_eq
      rw [List.length_map, List.length_drop]
      omega
    have llA : (lkA c).length ≤ 8 := by
      unfold lkA
      rw [List.length_map, el0]
      exact l0len
    obtain ⟨xs9, ys9, x1, x2, x3, x4, x5⟩ := rows_both (R8.mono s9) R9.in_
    refine ⟨B, D, xs9, ys9, rfl, rfl, x1, x2, by omega, fun L10 hL10 => ?_⟩
    have R10 := x5 L10 hL10
    have s10 := sameAdd (o := .lst (xs9 ++ ys9)) hL10
    have F10 := s10 _ _ (s9 _ _ F8)
    have s010 := s08.trans (s9.trans s10)
    generalize upd H9 L10 (.lst (xs9 ++ ys9)) = H10 at R10 s10 F10 s010 ⊢
    dsimp only [gName, List.set]
    clear x1 x2 x3 x4 x5 R9 s9 R8 F8 p88 hL10 s10 hD s08 xs9 ys9
    -- .. each is not nil
    refine ⟨_, rfl, _, rfl, 1, rfl, F, _, rfl, SqL.of F10, fun S hS => ?_⟩
    have e1 : cutV ((fstC c).map V.str) (some (1 : Int)) none = ((fstC c).drop 1).map V.str := by
      rw [List.map_drop]
      exact cutN _ 1
    rw [e1]
    have s11 := sameAdd (o := .lst (((fstC c).drop 1).map V.str)) hS
    have S11 : (upd H10 S (.lst (((fstC c).drop 1).map V.str))) S = some (.lst (((fstC c).drop 1).map V.str)) := upd_same
    have R11 := R10.mono s11
    have F11 := s11 _ _ F10
    have s011 := s010.trans s11
    generalize upd H10 S (.lst (((fstC c).drop 1).map V.str)) = H11 at s11 S11 R11 F11 s011 ⊢
    refine ⟨S, rfl, ⟨_, SqL.of S11⟩, fun D hD => lc_list (K := K) (a := S) (xs := ((fstC c).drop 1).map V.str) (fun i Hx => RowsAt H11 Hx D ((((fstC c).drop 1).take i).map fun f => (("isnt" : Str), f, ("nil" : Str)))) (rows_start hD) (fun i Hx _ h => SqL.of (h.1 _ _ S11)) ?_ ?_⟩
    · rintro i x Hx hx R
      rw [List.getElem?_map] at hx
      obtain ⟨n, hn, rfl⟩ := Option.map_eq_some_iff.mp hx
      have tk : ((fstC c).drop 1).take (i + 1) = ((fstC c).drop 1).take i ++ [n] := by rw [List.take_add_one, hn]; rfl
      refine ⟨rfl, _, rfl, by show 3 ≤ sizeLine; decide, fun t ht => ?_⟩
      obtain ⟨acc, h1, h2, h3⟩ := rows_add hD R ht (("isnt" : Str), n, ("nil" : Str))
      refine ⟨acc, h1, ?_, by rw [tk, List.map_append]; exact h3⟩
      rw [h2, List.length_map, List.length_take, List.length_drop]
      omega
    rintro H12 R12
    rw [List.length_map, List.take_length] at R12
    have R12 : RowsAt H11 H12 D (lkD c) := R12
    have s12 := R12.1
    have llD : (lkD c).length ≤ 60 := by
      unfold lkD
      rw [List.length_map, List.length_drop]
      omega
    obtain ⟨xs9, ys9, x1, x2, x3, x4, x5⟩ := rows_both (R11.mono s12) R12.in_
    rw [List.length_append] at x3
    refine ⟨L10, D, xs9, ys9, rfl, rfl, x1, x2, by omega, fun L13 hL13 => ?_⟩
    have R13 := x5 L13 hL13
    have s13 := sameAdd (o := .lst (xs9 ++ ys9)) hL13
    have F13 := s13 _ _ (s12 _ _ F11)
    have s013 := s011.trans (s12.trans s13)
    generalize upd H12 L13 (.lst (xs9 ++ ys9)) = H13 at R13 s13 F13 s013 ⊢
    dsimp only [gName, List.set]
    clear x1 x2 x3 x4 x5 R12 s12 R11 F11 S11 hL13 s13 hD xs9 ys9 hS s11 R10 F10 e1
    have llC : (lkA c ++ lkB c ++ lkD c).length ≤ 548 := by
      rw [List.length_append, List.length_append]
      omega
    have lE : ∀ i, (lkE (fstC c) i).length ≤ 60 := fun i => by
      unfold lkE
      split
      · exact Nat.zero_le _
      · rw [List.length_map, List.length_drop]
        omega
    -- .. each two apart
    refine ⟨_, rfl, F, _, rfl, SqL.of F13, for_it (walk_enum (K := K) (a := F) (xs := (fstC c).map V.str)) (fun j σ Hy => ∃ (o8 o9 : Option V) (Lj : Addr), σ = [some n, some (.ref a), some (.ref b1), some (.ref b2), some (.ref F), none, some (.ref Lj), none, o8, o9, none, none, none, none, none] ∧ Same H13 Hy ∧ RowsIn Hy Lj (lkA c ++ lkB c ++ lkD c ++ (List.range j).flatMap (lkE (fstC c))))
      ⟨_, _, L13, rfl, Same.refl _, by rw [List.range_zero, List.flatMap_nil, List.append_nil]; exact R13⟩ (fun j σ Hy _ ⟨_, _, _, _, s, _⟩ => SqL.of (s _ _ F13)) ?_ ?_⟩
    · rintro j x σ Hy Hy' hj ⟨o8, o9, Lj, rfl, sy, Ry⟩ ⟨T', a1, v, rfl, hT, eH, e1, e2⟩
      rw [List.length_map] at hj
      obtain rfl : a1 = V.int (j : Int) := (Option.some.inj e1).symm
      have e2 : ((fstC c).map V.str)[j]? = some v := e2
      rw [List.getElem?_map] at e2
      obtain ⟨fj, hfj, rfl⟩ := Option.map_eq_some_iff.mp e2
      have sT : Same Hy Hy' := by rw [eH]; exact sameAdd hT
      have TT : Hy' T' = some (.tup [V.int (j : Int), V.str fj]) := by rw [eH]; exact upd_same
      have Ry' := Ry.mono sT
      have sy' := sy.trans sT
      have rg : (List.range (j + 1)).flatMap (lkE (fstC c)) = (List.range j).flatMap (lkE (fstC c)) ++ lkE (fstC c) j := by rw [List.range_succ, List.flatMap_append, List.flatMap_singleton]
      have llR : (lkA c ++ lkB c ++ lkD c ++ (List.range j).flatMap (lkE (fstC c))).length ≤ 548 + 60 * 60 := by
        rw [List.length_append]
        have h1 := flat_len (f := lkE (fstC c)) (m := 60) (L := List.range j) fun x _ => lE x
        rw [List.length_range] at h1
        have : 60 * j ≤ 60 * 60 := Nat.mul_le_mul_left _ (by omega)
        omega
      clear eH hT e1 e2 Ry sy
      refine ⟨T', _, rfl, SqT.of TT, rfl, _, _, rfl, _, _, rfl, rfl, ?_⟩
      dsimp only [gName, List.set]
      refine ⟨_, rfl, _, _, rfl, rfl, _, rfl, ?_⟩
      refine iteD (fun j0 => ?_) (fun j0 => ?_)
      · have F14 := sy' _ _ F13
        refine ⟨_, rfl, _, rfl, _, rfl, _, _, rfl, rfl, _, rfl, F, _, rfl, SqL.of F14, fun S hS => ?_⟩
        have e1 : cutV ((fstC c).map V.str) (some ((j : Int) + 1)) none = ((fstC c).drop (j + 1)).map V.str := by
          rw [List.map_drop]
          exact cutN _ (j + 1)
        rw [e1]
        have s11 := sameAdd (o := .lst (((fstC c).drop (j + 1)).map V.str)) hS
        have S11 : (upd Hy' S (.lst (((fstC c).drop (j + 1)).map V.str))) S = some (.lst (((fstC c).drop (j + 1)).map V.str)) := upd_same
        have R11 := Ry'.mono s11
        generalize upd Hy' S (.lst (((fstC c).drop (j + 1)).map V.str)) = H15 at s11 S11 R11 ⊢
        refine ⟨S, rfl, ⟨_, SqL.of S11⟩, fun D hD => lc_list (K := K) (a := S) (xs := ((fstC c).drop (j + 1)).map V.str) (fun i Hx => RowsAt H15 Hx D ((((fstC c).drop (j + 1)).take i).map fun o => (("isnt" : Str), fj, o))) (rows_start hD) (fun i Hx _ h => SqL.of (h.1 _ _ S11)) ?_ ?_⟩
        · rintro i x Hx hx R
          rw [List.getElem?_map] at hx
          obtain ⟨m, hm, rfl⟩ := Option.map_eq_some_iff.mp hx
          have tk : ((fstC c).drop (j + 1)).take (i + 1) = ((fstC c).drop (j + 1)).take i ++ [m] := by rw [List.take_add_one, hm]; rfl
          refine ⟨rfl, _, rfl, _, rfl, by show 3 ≤ sizeLine; decide, fun t ht => ?_⟩
          obtain ⟨acc, h1, h2, h3⟩ := rows_add hD R ht (("isnt" : Str), fj, m)
          refine ⟨acc, h1, ?_, by rw [tk, List.map_append]; exact h3⟩
          rw [h2, List.length_map, List.length_take, List.length_drop]
          omega
        rintro H16 R16
        rw [List.length_map, List.take_length] at R16
        have eE : lkE (fstC c) j = ((fstC c).drop (j + 1)).map fun o => (("isnt" : Str), fj, o) := by
          unfold lkE
          rw [if_neg (by omega), List.getD_eq_getElem?_getD, hfj]
          rfl
        rw [← eE] at R16
        have s16 := R16.1
        have lEj := lE j
        obtain ⟨xs9, ys9, x1, x2, x3, x4, x5⟩ := rows_both (R11.mono s16) R16.in_
        refine ⟨Lj, D, xs9, ys9, rfl, rfl, x1, x2, by omega, fun L17 hL17 => ?_⟩
        refine ⟨_, _, L17, rfl, sy'.trans (s11.trans (s16.trans (sameAdd hL17))), ?_⟩
        have R17 := x5 L17 hL17
        rw [List.append_assoc, ← rg] at R17
        exact R17
      · refine ⟨_, _, Lj, rfl, sy', ?_⟩
        have z : j = 0 := by omega
        subst z
        exact Ry'
    rintro σ H17 ⟨o8, o9, Lj, rfl, s17, R17⟩
    rw [List.length_map] at R17
    have R17 : RowsIn H17 Lj (lkC c) := R17
    have F17 := s17 _ _ F13
    have s017 := s013.trans s17
    -- words
    refine fun p hp => ⟨upd_same, [(Sum.inr ("short" : Str), V.str "cell"), (Sum.inr ("long" : Str), V.str "list")], rfl, by show 2 ≤ 15; decide, ?_⟩
    rw [words_eq]
    have s18 : Same H17 (upd (upd H17 p (.dK [])) p (.dK (kvK (Sum.inr : Str → Key) V.str [(("short" : Str), ("cell" : Str)), (("long" : Str), ("list" : Str))]))) := sameOut (sameAdd hp) hp
    have W18 : (upd (upd H17 p (.dK [])) p (.dK (kvK (Sum.inr : Str → Key) V.str [(("short" : Str), ("cell" : Str)), (("long" : Str), ("list" : Str))]))) p = some (.dK (kvK (Sum.inr : Str → Key) V.str [(("short" : Str), ("cell" : Str)), (("long" : Str), ("list" : Str))])) := upd_same
    generalize upd (upd H17 p (.dK [])) p (.dK (kvK (Sum.inr : Str → Key) V.str [(("short" : Str), ("cell" : Str)), (("long" : Str), ("list" : Str))])) = H18 at s18 W18 ⊢
    dsimp only [gName, List.set]
    obtain ⟨ts, hLj, pts⟩ := R17.mono s18
    have F18 := s18 _ _ F17
    have s018 := s017.trans s18
    refine ⟨_, rfl, Lj, _, rfl, .inl ⟨SqL.of hLj, fun t1 ht1 => ?_⟩⟩
    have s19 := sameAdd (o := .tup (ts.map V.ref)) ht1
    have t119 : (upd H18 t1 (.tup (ts.map V.ref))) t1 = some (.tup (ts.map V.ref)) := upd_same
    generalize upd H18 t1 (.tup (ts.map V.ref)) = H19 at s19 t119 ⊢
    have las : as.length = c.2.length := by rw [das.length, List.length_map]
    have s019 := s018.trans s19
    have F19 := s19 _ _ F18
    have W19 := s19 _ _ W18
    refine ⟨_, rfl, b2, rfl, ⟨_, sameT (sm.trans s019) sb2⟩, fun D hD => lc_tup (K := K) (a := b2) (xs := as) (fun i Hx => RowsAt H19 Hx D ((c.2.take i).map fun q => (wordK q.2.1, (fstC c).getD q.1.toNat "nil", (fstC c).getD q.2.2.toNat "nil"))) (rows_start hD) (fun i Hx _ h => sameT ((sm.trans s019).trans h.1) sb2) ?_ ?_⟩
    · rintro i x Hx hx R
      obtain ⟨t, q, hq, rfl, sq⟩ := ar_at das hx
      have ark := ok.ar q (List.mem_of_getElem? hq)
      have tk : c.2.take (i + 1) = c.2.take i ++ [q] := by rw [List.take_add_one, hq]; rfl
      have fat : ∀ z : Int, 0 ≤ z → z < c.1.length → atI ((fstC c).map V.str) z = some (V.str ((fstC c).getD z.toNat "nil")) := fun z z0 z1 => by
        have hz : z.toNat < (fstC c).length := by omega
        have h1 : ((fstC c).map V.str)[z.toNat]? = some (V.str ((fstC c).getD z.toNat "nil")) := by
          rw [List.getElem?_map, List.getD_eq_getElem?_getD, List.getElem?_eq_getElem hz]
          rfl
        have := atI_nat h1
        rw [show ((z.toNat : Nat) : Int) = z by omega] at this
        exact this
      have dgw : DGet Hx p (.str q.2.1) (some (.str (wordK q.2.1))) := by
        have h := dgetS (f := V.str) (R.1 _ _ W19) q.2.1
        rcases ark.2.2.1 with e | e
        · rw [e] at h ⊢
          exact h
        · rw [e] at h ⊢
          exact h
      refine ⟨t, _, rfl, sameT ((sm.trans s019).trans R.1) sq, rfl, _, _, rfl, _, _, rfl, _, _, rfl, rfl, rfl, ?_⟩
      refine ⟨_, rfl, _, rfl, p, _, rfl, dgw, _, rfl, _, rfl, F, _, _, _, rfl, rfl, SqL.of (R.1 _ _ F19), fat _ ark.1 ark.2.1, _, rfl, _, rfl, F, _, _, _, rfl, rfl, SqL.of (R.1 _ _ F19), fat _ ark.2.2.2.1 ark.2.2.2.2, by show 3 ≤ sizeLine; decide, fun tt htt => ?_⟩
      obtain ⟨acc, h1, h2, h3⟩ := rows_add hD R htt (wordK q.2.1, (fstC c).getD q.1.toNat "nil", (fstC c).getD q.2.2.toNat "nil")
      refine ⟨acc, h1, ?_, by rw [tk, List.map_append]; exact h3⟩
      rw [h2, List.length_map, List.length_take]
      omega
    rintro H20 R20
    rw [las, List.take_length] at R20
    have R20 : RowsAt H19 H20 D (ptC c) := R20
    have s20 := R20.1
    obtain ⟨us, hD20, pus⟩ := R20.in_
    refine ⟨D, _, rfl, .inl ⟨SqL.of hD20, fun t2 ht2 => ?_⟩⟩
    have s21 := sameAdd (o := .tup (us.map V.ref)) ht2
    have t221 : (upd H20 t2 (.tup (us.map V.ref))) t2 = some (.tup (us.map V.ref)) := upd_same
    generalize upd H20 t2 (.tup (us.map V.ref)) = H21 at s21 t221 ⊢
    refine ⟨by show 2 ≤ sizeLine; decide, fun z hz => ?_⟩
    have s22 := sameAdd (o := .tup [V.ref t1, V.ref t2]) hz
    have sZ := s20.trans (s21.trans s22)
    refine k hB (.ref z) _ (s019.trans sZ) ?_
    refine .tup (SqT.of upd_same) (.cons (.tup (SqT.of (sZ _ _ t119)) (daall_rows (paired_mpL pts fun t r h => (s19.trans sZ) _ _ h))) (.cons (.tup (SqT.of (s22 _ _ t221)) (daall_rows (paired_mpL pus fun t r h => (s21.trans s22) _ _ h))) .nil))
end
end L2.Hx

/-! The clause of a case, as the law tells it. -/
namespace L2.Hx
open PySem PySem.Spec PyProof.Rows
def spLClause (K : PySem.W.Frag) : Sp := fun vs H Q _ => ∃ (v : V) (G : Hp) (ns : List Str) (c : Cs), vs = [v] ∧ Same G H ∧ Da K G v (caseD c) ∧ CaseOk ns c ∧ ns.length ≤ 8 ∧ ¬ Bare c ∧
  ∀ (z : V) (H' : Hp), Same H H' → Da K H' z (clD (lkC c) (ptC c)) → Q z H'
section
variable {P : Program} {w : World} {K : PySem.W.Frag} {mg : Str → Option Value} {base : Heap}
theorem D_l_clause_of (T : Txt K mg) : Df P w K mg base 1 "_law_clause_of" ["case"] (spLClause K) := by
  obtain ⟨f, fd, S⟩ := T.d_l_clause_of
  refine Df.mk' (k := 0) S sc_l_clause_of (fun vs H Q E h => ?_) (fun cdv A outer s H vs Q E hgd hr h => ?_)
  · obtain ⟨v, G, ns, c, rfl, _⟩ := h
    rfl
  · obtain ⟨v, G, ns, c, rfl, sm, da, ok, l8, hB, k⟩ := h
    have hu := hu_of hr
    have big : (5000 : Nat) ≤ sizeLine := by decide
    refine ⟨_, (pss_cons (ps_asg (pv 0) (pg_tup rfl (pgs_cons (pg_name (i := 1) sc_l_clause_of.nd rfl (.inl rfl)) (pgs_cons (pg_name (i := 2) sc_l_clause_of.nd rfl (.inl rfl)) pgs_nil))))
      (pss_cons (ps_set (i := 3) sc_l_clause_of.nd rfl (.inr rfl) (pe_op op_cat (pe_lst (pa_cons pe_str pa_nil)) (pe_lc (X := (cxOf CX0 P w K mg base ["case", "lots", "arrows", "first", "lot", "looks", "name", "spot", "other", "words", "begin", "kind", "end"] "_law_clause_of" (defScope s_l_clause_of) f cdv A outer s H E).nox) (own := [("lot", 4)]) (te := tOp (rIxT K) (tVar 4) (tC (.int 0))) (g := gName 4) (tt := tYes) rfl sc_l_clause_of.nd (pi_tup (pe_slice sl_tupA (pv 1) (po_some pe_int) po_none)) (blkOk_by (own := [("lot", 4)]) (N := ["case", "lots", "arrows", "first", "lot", "looks", "name", "spot", "other", "words", "begin", "kind", "end"]) (sc := defScope s_l_clause_of) (by decide +kernel)) (fun _ _ _ _ _ => pg_name (i := 4) sc_l_clause_of.nd rfl (.inl rfl)) (fun _ _ _ _ _ => pts_nil) (fun _ _ _ _ _ => (pe_ix ix_tup (pv 4) pe_int (fun _ _ => rfl))))))
      (pss_cons (ps_setLc (i := 5) (X := (cxOf CX0 P w K mg base ["case", "lots", "arrows", "first", "lot", "looks", "name", "spot", "other", "words", "begin", "kind", "end"] "_law_clause_of" (defScope s_l_clause_of) f cdv A outer s H E).nox) (own := [("name", 6)]) (te := tTup (tCons (tC (.str "is")) (tCons (tVar 6) (tCons (tC (.str "nil")) tNil)))) (g := gName 6) (tt := tYes) rfl sc_l_clause_of.nd rfl rfl (sw_true rfl rfl rfl (by decide +kernel)) (pi_tup (pe_ix ix_tup (pv 1) pe_int (fun _ _ => rfl))) (blkOk_by (own := [("name", 6)]) (N := ["case", "lots", "arrows", "first", "lot", "looks", "name", "spot", "other", "words", "begin", "kind", "end"]) (sc := defScope s_l_clause_of) (by decide +kernel)) (fun _ _ _ _ _ => pg_name (i := 6) sc_l_clause_of.nd rfl (.inl rfl)) (fun _ _ _ _ _ => pts_nil) (fun _ _ _ _ _ => (pe_tup (pa_cons pe_str (pa_cons (pv 6) (pa_cons pe_str pa_nil))))))
      (pss_cons (ps_for PassesOwn.never rfl (pi_tup (pe_slice sl_tupA (pv 1) (po_some pe_int) po_none)) (pg_name (i := 4) sc_l_clause_of.nd rfl (.inr rfl))
      (pss_one (ps_set (i := 5) sc_l_clause_of.nd rfl (.inl rfl) (pe_op op_cat (pv 5) (pe_lc (X := (cxOf CX0 P w K mg base ["case", "lots", "arrows", "first", "lot", "looks", "name", "spot", "other", "words", "begin", "kind", "end"] "_law_clause_of" (defScope s_l_clause_of) f cdv A outer s H E).nox) (own := [("name", 6)]) (te := tTup (tCons (tC (.str "is")) (tCons (tOp (rIxT K) (tVar 4) (tC (.int 0))) (tCons (tVar 6) tNil)))) (g := gName 6) (tt := tYes) rfl sc_l_clause_of.nd (pi_tup (pe_slice sl_tupA (pv 4) (po_some pe_int) po_none)) (blkOk_by (own := [("name", 6)]) (N := ["case", "lots", "arrows", "first", "lot", "looks", "name", "spot", "other", "words", "begin", "kind", "end"]) (sc := defScope s_l_clause_of) (by decide +kernel)) (fun _ _ _ _ _ => pg_name (i := 6) sc_l_clause_of.nd rfl (.inl rfl)) (fun _ _ _ _ _ => pts_nil) (fun _ _ _ _ _ => (pe_tup (pa_cons pe_str (pa_cons (pe_ix ix_tup (pv 4) pe_int (fun _ _ => rfl)) (pa_cons (pv 6) pa_nil))))))))))
      (pss_cons (ps_set (i := 5) sc_l_clause_of.nd rfl (.inl rfl) (pe_op op_cat (pv 5) (pe_lc (X := (cxOf CX0 P w K mg base ["case", "lots", "arrows", "first", "lot", "looks", "name", "spot", "other", "words", "begin", "kind", "end"] "_law_clause_of" (defScope s_l_clause_of) f cdv A outer s H E).nox) (own := [("name", 6)]) (te := tTup (tCons (tC (.str "isnt")) (tCons (tVar 6) (tCons (tC (.str "nil")) tNil)))) (g := gName 6) (tt := tYes) rfl sc_l_clause_of.nd (pi_list (pe_slice sl_list (pv 3) (po_some pe_int) po_none)) (blkOk_by (own := [("name", 6)]) (N := ["case", "lots", "arrows", "first", "lot", "looks", "name", "spot", "other", "words", "begin", "kind", "end"]) (sc := defScope s_l_clause_of) (by decide +kernel)) (fun _ _ _ _ _ => pg_name (i := 6) sc_l_clause_of.nd rfl (.inl rfl)) (fun _ _ _ _ _ => pts_nil) (fun _ _ _ _ _ => (pe_tup (pa_cons pe_str (pa_cons (pv 6) (pa_cons pe_str pa_nil))))))))
      (pss_cons (ps_for PassesOwn.never rfl (pi_range2 rfl T.b_range (pa_cons pe_int (pa_cons (pe_callB call_len_seq (by rfl) T.b_len (by decide +kernel) (pa_cons (pv 3) pa_nil)) pa_nil))) (pg_name (i := 7) sc_l_clause_of.nd rfl (.inr rfl))
      (pss_one (ps_set (i := 5) sc_l_clause_of.nd rfl (.inl rfl) (pe_op op_cat (pv 5) (pe_lc (X := (cxOf CX0 P w K mg base ["case", "lots", "arrows", "first", "lot", "looks", "name", "spot", "other", "words", "begin", "kind", "end"] "_law_clause_of" (defScope s_l_clause_of) f cdv A outer s H E).nox) (own := [("other", 8)]) (te := tTup (tCons (tC (.str "isnt")) (tCons (tOp (rIxL K) (tVar 3) (tVar 7)) (tCons (tVar 8) tNil)))) (g := gName 8) (tt := tYes) rfl sc_l_clause_of.nd (pi_list (pe_slice sl_list (pv 3) (po_some (pe_op op_add (pv 7) pe_int)) po_none)) (blkOk_by (own := [("other", 8)]) (N := ["case", "lots", "arrows", "first", "lot", "looks", "name", "spot", "other", "words", "begin", "kind", "end"]) (sc := defScope s_l_clause_of) (by decide +kernel)) (fun _ _ _ _ _ => pg_name (i := 8) sc_l_clause_of.nd rfl (.inl rfl)) (fun _ _ _ _ _ => pts_nil) (fun _ _ _ _ _ => (pe_tup (pa_cons pe_str (pa_cons (pe_ix ix_list (pv 3) (pv 7) (fun _ _ => rfl)) (pa_cons (pv 8) pa_nil))))))))))
      (pss_cons (ps_set (i := 9) sc_l_clause_of.nd rfl (.inr rfl) (pe_disp (pps_cons pe_str pe_str (pps_cons pe_str pe_str pps_nil)) (by rfl) (by rfl) (fun z => by cases z) (by decide)))
      (pss_one (ps_ret (pe_tup (pa_cons (pe_callTy call_tuple_of (by rfl) T.b_tuple (by decide +kernel) (pa_cons (pv 5) pa_nil)) (pa_cons (pe_callTy call_tuple_of (by rfl) T.b_tuple (by decide +kernel) (pa_cons (pe_lc (X := (cxOf CX0 P w K mg base ["case", "lots", "arrows", "first", "lot", "looks", "name", "spot", "other", "words", "begin", "kind", "end"] "_law_clause_of" (defScope s_l_clause_of) f cdv A outer s H E).nox) (own := [("begin", 10), ("kind", 11), ("end", 12)]) (g := gTup K 3 (gCons (gName 10) (gCons (gName 11) (gCons (gName 12) gNil)))) (te := tTup (tCons (tDGet (tVar 9) (tVar 11)) (tCons (tOp (rIxL K) (tVar 3) (tVar 10)) (tCons (tOp (rIxL K) (tVar 3) (tVar 12)) tNil)))) (tt := tYes) rfl sc_l_clause_of.nd (pi_tup (pv 2)) (blkOk_by (own := [("begin", 10), ("kind", 11), ("end", 12)]) (N := ["case", "lots", "arrows", "first", "lot", "looks", "name", "spot", "other", "words", "begin", "kind", "end"]) (sc := defScope s_l_clause_of) (by decide +kernel)) (fun _ _ _ _ _ => pg_tup rfl (pgs_cons (pg_name (i := 10) sc_l_clause_of.nd rfl (.inl rfl)) (pgs_cons (pg_name (i := 11) sc_l_clause_of.nd rfl (.inl rfl)) (pgs_cons (pg_name (i := 12) sc_l_clause_of.nd rfl (.inl rfl)) pgs_nil)))) (fun _ _ _ _ _ => pts_nil) (fun _ _ _ _ _ => (pe_tup (pa_cons (pe_dget hu (pv 9) (pv 11) (fun _ _ => rfl)) (pa_cons (pe_ix ix_list (pv 3) (pv 10) (fun _ _ => rfl)) (pa_cons (pe_ix ix_list (pv 3) (pv 12) (fun _ _ => rfl)) pa_nil)))))) pa_nil)) pa_nil)))))))))))), ?_⟩
    obtain ⟨a, b1, b2, ls, as, rfl, sa, sb1, dls, sb2, das⟩ := da_case da
    have lls : ls.length = c.1.length := by rw [dls.length, List.length_map]
    have l60 := ok.len
    have al := ok.alen
    have p0 := ok.pos
    refine ⟨_, rfl, a, _, rfl, sameT sm sa, rfl, _, _, rfl, _, _, rfl, rfl, ?_⟩
    dsimp only [gName, List.set]
    have s2 : Same H H := Same.refl _
    have lotAt : ∀ (i : Nat) (x : V), (ls.drop 1)[i]? = some x → ∃ (t : Addr) (l : List Str), x = V.ref t ∧ (c.1.drop 1)[i]? = some l ∧ l ≠ [] ∧ SqT K G t (l.map V.str) := fun i x hx => by
      rw [List.getElem?_drop] at hx
      obtain ⟨t, l, hl, rfl, sl⟩ := da_lot dls hx
      have hl2 : (c.1.drop 1)[i]? = some l := by rw [List.getElem?_drop]; exact hl
      exact ⟨t, l, rfl, hl2, fun e => hB (show ([] : List Str) ∈ c.1.drop 1 from e ▸ List.mem_of_getElem? hl2), sl⟩
    have head0 : ∀ {l : List Str}, l ≠ [] → atI (l.map V.str) 0 = some (V.str (l.headD "nil")) := fun {l} h => by
      cases l with
      | nil => exact absurd rfl h
      | cons n r => exact at_zero _ _
    -- firsts
    refine ⟨by show 1 ≤ sizeLine; decide, fun q3 hq3 => ⟨_, rfl, _, rfl, b1, ls, rfl, sameT ((sm.trans s2).trans (sameAdd hq3)) sb1, fun e => absurd e.1 (no_whole (by omega)), fun _ p4 hp4 => ?_⟩⟩
    rw [cut1 (by omega)]
    have s4 := (sameAdd (o := .lst [V.str "nil"]) hq3).trans (sameAdd (o := .tup (ls.drop 1)) hp4)
    have q34 := sameAdd (o := .tup (ls.drop 1)) hp4 _ _ (show (upd H q3 (.lst [V.str "nil"])) q3 = some (.lst [V.str "nil"]) from upd_same)
    have p44 : (upd (upd H q3 (.lst [V.str "nil"])) p4 (.tup (ls.drop 1))) p4 = some (.tup (ls.drop 1)) := upd_same
    generalize upd (upd H q3 (.lst [V.str "nil"])) p4 (.tup (ls.drop 1)) = H4 at s4 q34 p44 ⊢
    have s04 := s2.trans s4
    clear hq3 hp4 s4
    have ldr : (ls.drop 1).length = (c.1.drop 1).length := by rw [List.length_drop, List.length_drop, lls]
    have lls1 : (ls.drop 1).length ≤ 60 := by rw [List.length_drop]; omega
    refine ⟨p4, rfl, ⟨_, SqT.of p44⟩, fun B hB4 => lc_tup (K := K) (a := p4) (xs := ls.drop 1) (fun i Hx => Same H4 Hx ∧ Hx B = some (.lst ((((c.1.drop 1).take i).map fun l => l.headD "nil").map V.str))) ⟨sameAdd hB4, upd_same⟩ (fun i Hx _ h => SqT.of (h.1 _ _ p44)) ?_ ?_⟩
    · rintro i x Hx hx ⟨sx, lx⟩
      obtain ⟨t, l, rfl, hl, ne, sl⟩ := lotAt i x hx
      have tk : (c.1.drop 1).take (i + 1) = (c.1.drop 1).take i ++ [l] := by rw [List.take_add_one, hl]; rfl
      refine ⟨rfl, _, rfl, t, _, 0, _, rfl, rfl, sameT ((sm.trans s04).trans sx) sl, head0 ne, _, lx, ?_, sameOut sx hB4, ?_⟩
      · rw [List.length_map, List.length_map, List.length_take]
        have := (List.getElem?_eq_some_iff.mp hx).1
        omega
      · rw [upd_same, tk, List.map_append, List.map_append]
        rfl
    rintro H5 ⟨s5, lB⟩
    rw [ldr, List.take_length] at lB
    have q35 := s5 _ _ q34
    refine ⟨q3, B, [V.str "nil"], _, rfl, rfl, q35, lB, by rw [List.length_singleton, List.length_map, List.length_map, ← ldr]; omega, fun F hF => ?_⟩
    have s6 := sameAdd (o := .lst ([V.str "nil"] ++ ((c.1.drop 1).map fun l => l.headD "nil").map V.str)) hF
    have F6 : (upd H5 F (.lst ([V.str "nil"] ++ ((c.1.drop 1).map fun l => l.headD "nil").map V.str))) F = some (.lst ((fstC c).map V.str)) := upd_same
    generalize upd H5 F (.lst ([V.str "nil"] ++ ((c.1.drop 1).map fun l => l.headD "nil").map V.str)) = H6 at s6 F6 ⊢
    have s06 := s04.trans (s5.trans s6)
    clear s04 s5 s6 q34 q35 p44 lB hF hB4
    have lf : (fstC c).length = c.1.length := by
      unfold fstC
      rw [List.length_cons, List.length_map, List.length_drop]
      omega
    dsimp only [gName, List.set]
    -- looks: what is nil
    obtain ⟨v0, hv0⟩ : ∃ v0, ls[0]? = some v0 := ⟨_, List.getElem?_eq_getElem (by omega)⟩
    obtain ⟨t0, l0, hl0, rfl, sl0⟩ := da_lot dls hv0
    have el0 : c.1.headD [] = l0 := by
      cases hc : c.1 with
      | nil => rw [hc] at hl0; cases hl0
      | cons x r => rw [hc] at hl0; exact Option.some.inj hl0
    have l0len : l0.length ≤ 8 := by
      have h1 := (List.sublist_flatten_of_mem (List.mem_of_getElem? hl0)).length_le
      have h2 := ok.perm.length_eq
      omega
    have at0 : atI ls 0 = some (V.ref t0) := by
      cases hc : ls with
      | nil => rw [hc] at hv0; cases hv0
      | cons x r =>
        rw [hc] at hv0
        rw [at_zero]
        exact hv0
    refine ⟨_, rfl, b1, ls, 0, V.ref t0, rfl, rfl, sameT (sm.trans s06) sb1, at0, t0, rfl, ⟨_, sameT (sm.trans s06) sl0⟩, fun B hB6 => lc_tup (K := K) (a := t0) (xs := l0.map V.str) (fun i Hx => RowsAt H6 Hx B ((l0.take i).map fun n => (("is" : Str), n, ("nil" : Str)))) (rows_start hB6) (fun i Hx _ h => sameT ((sm.trans s06).trans h.1) sl0) ?_ ?_⟩
    · rintro i x Hx hx R
      rw [List.getElem?_map] at hx
      obtain ⟨n, hn, rfl⟩ := Option.map_eq_some_iff.mp hx
      have tk : l0.take (i + 1) = l0.take i ++ [n] := by rw [List.take_add_one, hn]; rfl
      refine ⟨rfl, _, rfl, by show 3 ≤ sizeLine; decide, fun t ht => ?_⟩
      obtain ⟨acc, h1, h2, h3⟩ := rows_add hB6 R ht (("is" : Str), n, ("nil" : Str))
      refine ⟨acc, h1, ?_, by rw [tk, List.map_append]; exact h3⟩
      rw [h2, List.length_map, List.length_take]
      omega
    rintro H7 R7
    rw [List.length_map, List.take_length] at R7
    have s67 := R7.1
    have R7 : RowsIn H7 B (lkA c) := by
      unfold lkA
      rw [el0]
      exact R7.in_
    have s07 := s06.trans s67
    have F7 := s67 _ _ F6
    dsimp only [gName, List.set]
    -- .. the other names of each lot
    have llA : (lkA c).length ≤ 8 := by
      unfold lkA
      rw [List.length_map, el0]
      exact l0len
    refine ⟨_, rfl, _, rfl, b1, ls, rfl, sameT (sm.trans s07) sb1, fun e => absurd e.1 (no_whole (by omega)), fun _ p8 hp8 => ?_⟩
    rw [cut1 (by omega)]
    have s8 := sameAdd (o := .tup (ls.drop 1)) hp8
    have p88 : (upd H7 p8 (.tup (ls.drop 1))) p8 = some (.tup (ls.drop 1)) := upd_same
    have R8 := R7.mono s8
    have F8 := s8 _ _ F7
    generalize upd H7 p8 (.tup (ls.drop 1)) = H8 at s8 p88 R8 F8 ⊢
    have s08 := s07.trans s8
    clear hp8 s8
    refine ⟨p8, rfl, ⟨_, SqT.of p88⟩, for_tup (K := K) (a := p8) (xs := ls.drop 1) (fun i σ Hx => ∃ (o4 : Option V) (Lj : Addr), σ = [some (.ref a), some (.ref b1), some (.ref b2), some (.ref F), o4, some (.ref Lj), none, none, none, none, none, none, none] ∧ Same H8 Hx ∧ RowsIn Hx Lj (lkA c ++ ((c.1.drop 1).take i).flatMap fun l => (l.drop 1).map fun n => (("is" : Str), l.headD "nil", n)))
      ⟨_, B, rfl, Same.refl _, by rw [List.take_zero, List.flatMap_nil, List.append_nil]; exact R8⟩ (fun i σ Hx _ ⟨_, _, _, s, _⟩ => SqT.of (s _ _ p88)) ?_ ?_⟩
    · rintro i x σ Hx hx ⟨o4, Lj, rfl, sx, R⟩
      obtain ⟨t, l, rfl, hl, ne, sl⟩ := lotAt i x hx
      have lpos : 0 < l.length := List.length_pos_iff.mpr ne
      have tk : (c.1.drop 1).take (i + 1) = (c.1.drop 1).take i ++ [l] := by rw [List.take_add_one, hl]; rfl
      have l8' : l.length ≤ 8 := by
        have h1 := (List.sublist_flatten_of_mem (List.mem_of_mem_drop (List.mem_of_getElem? hl))).length_le
        have h2 := ok.perm.length_eq
        omega
      have lfl : (((c.1.drop 1).take i).flatMap fun l => (l.drop 1).map fun n => (("is" : Str), l.headD "nil", n)).length ≤ 8 * 60 := by
        refine Nat.le_trans (flat_len (m := 8) fun x m => ?_) (Nat.mul_le_mul_left _ (by rw [List.length_take, List.length_drop]; omega))
        have h1 := (List.sublist_flatten_of_mem (List.mem_of_mem_drop (List.mem_of_mem_take m))).length_le
        have h2 := ok.perm.length_eq
        rw [List.length_map, List.length_drop]
        omega
      dsimp only [gName, List.set]
      refine ⟨_, rfl, _, rfl, _, rfl, t, l.map V.str, rfl, sameT ((sm.trans s08).trans sx) sl, fun e => absurd e.1 (no_whole (by rw [List.length_map]; exact lpos)), fun _ p9 hp9 => ?_⟩
      rw [cut1 (by rw [List.length_map]; exact lpos), ← List.map_drop]
      have s9 := sameAdd (o := .tup ((l.drop 1).map V.str)) hp9
      have p99 : (upd Hx p9 (.tup ((l.drop 1).map V.str))) p9 = some (.tup ((l.drop 1).map V.str)) := upd_same
      have R9 := R.mono s9
      generalize upd Hx p9 (.tup ((l.drop 1).map V.str)) = H9 at s9 p99 R9 ⊢
      refine ⟨p9, rfl, ⟨_, SqT.of p99⟩, fun D hD => lc_tup (K := K) (a := p9) (xs := (l.drop 1).map V.str) (fun j Hy => RowsAt H9 Hy D (((l.drop 1).take j).map fun n => (("is" : Str), l.headD "nil", n))) (rows_start hD) (fun j Hy _ h => SqT.of (h.1 _ _ p99)) ?_ ?_⟩
      · rintro j y Hy hy Ry
        rw [List.getElem?_map] at hy
        obtain ⟨n, hn, rfl⟩ := Option.map_eq_some_iff.mp hy
        have tk2 : (l.drop 1).take (j + 1) = (l.drop 1).take j ++ [n] := by rw [List.take_add_one, hn]; rfl
        refine ⟨rfl, _, rfl, t, _, 0, _, rfl, rfl, sameT (((sm.trans s08).trans (sx.trans s9)).trans Ry.1) sl, head0 ne, _, rfl, by show 3 ≤ sizeLine; decide, fun tt htt => ?_⟩
        obtain ⟨acc, a1, a2, a3⟩ := rows_add hD Ry htt (("is" : Str), l.headD "nil", n)
        refine ⟨acc, a1, ?_, by rw [tk2, List.map_append]; exact a3⟩
        rw [a2, List.length_map, List.length_take, List.length_drop]
        omega
      rintro Hy Ry
      rw [List.length_map, List.take_length] at Ry
      have sy := Ry.1
      obtain ⟨xs9, ys9, x1, x2, x3, x4, x5⟩ := rows_both (R9.mono sy) Ry.in_
      rw [List.length_append] at x3
      rw [List.length_map, List.length_drop] at x4
      refine ⟨Lj, D, xs9, ys9, rfl, rfl, x1, x2, by omega, fun L10 hL10 => ?_⟩
      have R10 := x5 L10 hL10
      refine ⟨_, L10, rfl, sx.trans (s9.trans (sy.trans (sameAdd hL10))), ?_⟩
      rw [tk, List.flatMap_append, List.flatMap_singleton, ← List.append_assoc]
      exact R10
    rintro σ H10 ⟨o4, L10, rfl, s9, R10⟩
    rw [ldr, List.take_length] at R10
    have R10 : RowsIn H10 L10 (lkA c ++ lkB c) := R10
    have F10 := s9 _ _ F8
    have s010 := s08.trans s9
    have llB : (lkB c).length ≤ 480 := by
      refine Nat.le_trans (flat_len (m := 8) fun x m => ?_) (Nat.le_trans (Nat.mul_le_mul_left 8 (show (c.1.drop 1).length ≤ 60 by rw [List.length_drop]; omega)) (by decide))
      have h1 := (List.sublist_flatten_of_mem (List.mem_of_mem_drop m)).length_le
      have h2 := ok.perm.length_eq
      rw [List.length_map, List.length_drop]
      omega
    -- .. each is not nil
    refine ⟨_, rfl, _, rfl, 1, rfl, F, _, rfl, SqL.of F10, fun S hS => ?_⟩
    have e1 : cutV ((fstC c).map V.str) (some (1 : Int)) none = ((fstC c).drop 1).map V.str := by
      rw [List.map_drop]
      exact cutN _ 1
    rw [e1]
    have s11 := sameAdd (o := .lst (((fstC c).drop 1).map V.str)) hS
    have S11 : (upd H10 S (.lst (((fstC c).drop 1).map V.str))) S = some (.lst (((fstC c).drop 1).map V.str)) := upd_same
    have R11 := R10.mono s11
    have F11 := s11 _ _ F10
    have s011 := s010.trans s11
    generalize upd H10 S (.lst (((fstC c).drop 1).map V.str)) = H11 at s11 S11 R11 F11 s011 ⊢
    refine ⟨S, rfl, ⟨_, SqL.of S11⟩, fun D hD => lc_list (K := K) (a := S) (xs := ((fstC c).drop 1).map V.str) (fun i Hx => RowsAt H11 Hx D ((((fstC c).drop 1).take i).map fun f => (("isnt" : Str), f, ("nil" : Str)))) (rows_start hD) (fun i Hx _ h => SqL.of (h.1 _ _ S11)) ?_ ?_⟩
    · rintro i x Hx hx R
      rw [List.getElem?_map] at hx
      obtain ⟨n, hn, rfl⟩ := Option.map_eq_some_iff.mp hx
      have tk : ((fstC c).drop 1).take (i + 1) = ((fstC c).drop 1).take i ++ [n] := by rw [List.take_add_one, hn]; rfl
      refine ⟨rfl, _, rfl, by show 3 ≤ sizeLine; decide, fun t ht => ?_⟩
      obtain ⟨acc, h1, h2, h3⟩ := rows_add hD R ht (("isnt" : Str), n, ("nil" : Str))
      refine ⟨acc, h1, ?_, by rw [tk, List.map_append]; exact h3⟩
      rw [h2, List.length_map, List.length_take, List.length_drop]
      omega
    rintro H12 R12
    rw [List.length_map, List.take_length] at R12
    have R12 : RowsAt H11 H12 D (lkD c) := R12
    have s12 := R12.1
    have llD : (lkD c).length ≤ 60 := by
      unfold lkD
      rw [List.length_map, List.length_drop]
      omega
    obtain ⟨xs9, ys9, x1, x2, x3, x4, x5⟩ := rows_both (R11.mono s12) R12.in_
    rw [List.length_append] at x3
    refine ⟨L10, D, xs9, ys9, rfl, rfl, x1, x2, by omega, fun L13 hL13 => ?_⟩
    have R13 := x5 L13 hL13
    have s13 := sameAdd (o := .lst (xs9 ++ ys9)) hL13
    have F13 := s13 _ _ (s12 _ _ F11)
    have s013 := s011.trans (s12.trans s13)
    generalize upd H12 L13 (.lst (xs9 ++ ys9)) = H13 at R13 s13 F13 s013 ⊢
    dsimp only [gName, List.set]
    clear x1 x2 x3 x4 x5 R12 s12 R11 F11 S11 hL13 s13 hD xs9 ys9 hS s11 R10 F10 e1
    have llC : (lkA c ++ lkB c ++ lkD c).length ≤ 548 := by
      rw [List.length_append, List.length_append]
      omega
    have lE : ∀ i, (lkE (fstC c) i).length ≤ 60 := fun i => by
      unfold lkE
      split
      · exact Nat.zero_le _
      · rw [List.length_map, List.length_drop]
        omega
    have llC : (lkA c ++ lkB c ++ lkD c).length ≤ 548 := by
      rw [List.length_append, List.length_append]
      omega
    have lE : ∀ i, (lkE (fstC c) i).length ≤ 60 := fun i => by
      unfold lkE
      split
      · exact Nat.zero_le _
      · rw [List.length_map, List.length_drop]
        omega
    have lm : ((fstC c).map V.str).length = (fstC c).length := List.length_map _
    -- .. each two apart
    refine ⟨_, rfl, F, _, rfl, .inl (SqL.of F13), 1, _, rfl, ⟨by decide, by decide, by omega, by omega⟩, for_range (lo := 1) (n := ((((fstC c).map V.str).length : Int) - 1).toNat) (fun i σ Hy => ∃ (o7 : Option V) (Lj : Addr), σ = [some (.ref a), some (.ref b1), some (.ref b2), some (.ref F), o4, some (.ref Lj), none, o7, none, none, none, none, none] ∧ Same H13 Hy ∧ RowsIn Hy Lj (lkA c ++ lkB c ++ lkD c ++ (List.range (i + 1)).flatMap (lkE (fstC c))))
      ⟨_, L13, rfl, Same.refl _, by rw [show (List.range (0 + 1)).flatMap (lkE (fstC c)) = [] from rfl, List.append_nil]; exact R13⟩ ?_ ?_⟩
    · rintro i σ Hy hi ⟨o7, Lj, rfl, sy', Ry'⟩
      have hi2 : i + 1 < (fstC c).length := by omega
      obtain ⟨fj, hfj⟩ : ∃ fj, (fstC c)[i + 1]? = some fj := ⟨_, List.getElem?_eq_getElem hi2⟩
      have rg : (List.range (i + 1 + 1)).flatMap (lkE (fstC c)) = (List.range (i + 1)).flatMap (lkE (fstC c)) ++ lkE (fstC c) (i + 1) := by rw [List.range_succ, List.flatMap_append, List.flatMap_singleton]
      have llR : (lkA c ++ lkB c ++ lkD c ++ (List.range (i + 1)).flatMap (lkE (fstC c))).length ≤ 548 + 60 * 61 := by
        rw [List.length_append]
        have h1 := flat_len (f := lkE (fstC c)) (m := 60) (L := List.range (i + 1)) fun x _ => lE x
        rw [List.length_range] at h1
        have : 60 * (i + 1) ≤ 60 * 61 := Nat.mul_le_mul_left _ (by omega)
        omega
      dsimp only [gName, List.set]
      have F14 := sy' _ _ F13
      refine ⟨_, rfl, _, rfl, _, rfl, _, _, rfl, rfl, _, rfl, F, _, rfl, SqL.of F14, fun S hS => ?_⟩
      have e1 : cutV ((fstC c).map V.str) (some ((1 : Int) + (i : Int) + 1)) none = ((fstC c).drop (i + 1 + 1)).map V.str := by
        rw [List.map_drop, show (1 : Int) + (i : Int) + 1 = ((i + 1 + 1 : Nat) : Int) by omega]
        exact cutN _ (i + 1 + 1)
      rw [e1]
      have s11 := sameAdd (o := .lst (((fstC c).drop (i + 1 + 1)).map V.str)) hS
      have S11 : (upd Hy S (.lst (((fstC c).drop (i + 1 + 1)).map V.str))) S = some (.lst (((fstC c).drop (i + 1 + 1)).map V.str)) := upd_same
      have R11 := Ry'.mono s11
      have F15 := s11 _ _ F14
      generalize upd Hy S (.lst (((fstC c).drop (i + 1 + 1)).map V.str)) = H15 at s11 S11 R11 F15 ⊢
      have fat1 : atI ((fstC c).map V.str) (1 + (i : Int)) = some (V.str fj) := by
        have h1 : ((fstC c).map V.str)[i + 1]? = some (V.str fj) := by rw [List.getElem?_map, hfj]; rfl
        have := atI_nat h1
        rw [show ((i + 1 : Nat) : Int) = 1 + (i : Int) by omega] at this
        exact this
      refine ⟨S, rfl, ⟨_, SqL.of S11⟩, fun D hD => lc_list (K := K) (a := S) (xs := ((fstC c).drop (i + 1 + 1)).map V.str) (fun j Hx => RowsAt H15 Hx D ((((fstC c).drop (i + 1 + 1)).take j).map fun o => (("isnt" : Str), fj, o))) (rows_start hD) (fun j Hx _ h => SqL.of (h.1 _ _ S11)) ?_ ?_⟩
      · rintro j x Hx hx R
        rw [List.getElem?_map] at hx
        obtain ⟨m, hm, rfl⟩ := Option.map_eq_some_iff.mp hx
        have tk : ((fstC c).drop (i + 1 + 1)).take (j + 1) = ((fstC c).drop (i + 1 + 1)).take j ++ [m] := by rw [List.take_add_one, hm]; rfl
        refine ⟨rfl, _, rfl, _, rfl, F, _, _, _, rfl, rfl, SqL.of (R.1 _ _ F15), fat1, _, rfl, by show 3 ≤ sizeLine; decide, fun t ht => ?_⟩
        obtain ⟨acc, h1, h2, h3⟩ := rows_add hD R ht (("isnt" : Str), fj, m)
        refine ⟨acc, h1, ?_, by rw [tk, List.map_append]; exact h3⟩
        rw [h2, List.length_map, List.length_take, List.length_drop]
        omega
      rintro H16 R16
      rw [List.length_map, List.take_length] at R16
      have eE : lkE (fstC c) (i + 1) = ((fstC c).drop (i + 1 + 1)).map fun o => (("isnt" : Str), fj, o) := by
        unfold lkE
        rw [if_neg (by omega), List.getD_eq_getElem?_getD, hfj]
        rfl
      rw [← eE] at R16
      have s16 := R16.1
      have lEj := lE (i + 1)
      obtain ⟨xs9, ys9, x1, x2, x3, x4, x5⟩ := rows_both (R11.mono s16) R16.in_
      refine ⟨Lj, D, xs9, ys9, rfl, rfl, x1, x2, by omega, fun L17 hL17 => ?_⟩
      refine ⟨_, L17, rfl, sy'.trans (s11.trans (s16.trans (sameAdd hL17))), ?_⟩
      have R17 := x5 L17 hL17
      rw [List.append_assoc, ← rg] at R17
      exact R17
    rintro σ H17 ⟨o7, Lj, rfl, s17, R17⟩
    have R17 : RowsIn H17 Lj (lkC c) := by
      have e : (((((fstC c).map V.str).length : Nat) : Int) - 1).toNat + 1 = (fstC c).length := by rw [List.length_map]; omega
      rw [e] at R17
      exact R17
    have F17 := s17 _ _ F13
    have s017 := s013.trans s17
    -- words
    refine fun p hp => ⟨upd_same, [(Sum.inr ("short" : Str), V.str "cell"), (Sum.inr ("long" : Str), V.str "list")], rfl, by show 2 ≤ 15; decide, ?_⟩
    rw [words_eq]
    have s18 : Same H17 (upd (upd H17 p (.dK [])) p (.dK (kvK (Sum.inr : Str → Key) V.str [(("short" : Str), ("cell" : Str)), (("long" : Str), ("list" : Str))]))) := sameOut (sameAdd hp) hp
    have W18 : (upd (upd H17 p (.dK [])) p (.dK (kvK (Sum.inr : Str → Key) V.str [(("short" : Str), ("cell" : Str)), (("long" : Str), ("list" : Str))]))) p = some (.dK (kvK (Sum.inr : Str → Key) V.str [(("short" : Str), ("cell" : Str)), (("long" : Str), ("list" : Str))])) := upd_same
    generalize upd (upd H17 p (.dK [])) p (.dK (kvK (Sum.inr : Str → Key) V.str [(("short" : Str), ("cell" : Str)), (("long" : Str), ("list" : Str))])) = H18 at s18 W18 ⊢
    dsimp only [gName, List.set]
    obtain ⟨ts, hLj, pts⟩ := R17.mono s18
    have F18 := s18 _ _ F17
    have s018 := s017.trans s18
    refine ⟨_, rfl, Lj, _, rfl, .inl ⟨SqL.of hLj, fun t1 ht1 => ?_⟩⟩
    have s19 := sameAdd (o := .tup (ts.map V.ref)) ht1
    have t119 : (upd H18 t1 (.tup (ts.map V.ref))) t1 = some (.tup (ts.map V.ref)) := upd_same
    generalize upd H18 t1 (.tup (ts.map V.ref)) = H19 at s19 t119 ⊢
    have las : as.length = c.2.length := by rw [das.length, List.length_map]
    have s019 := s018.trans s19
    have F19 := s19 _ _ F18
    have W19 := s19 _ _ W18
    refine ⟨_, rfl, b2, rfl, ⟨_, sameT (sm.trans s019) sb2⟩, fun D hD => lc_tup (K := K) (a := b2) (xs := as) (fun i Hx => RowsAt H19 Hx D ((c.2.take i).map fun q => (wordK q.2.1, (fstC c).getD q.1.toNat "nil", (fstC c).getD q.2.2.toNat "nil"))) (rows_start hD) (fun i Hx _ h => sameT ((sm.trans s019).trans h.1) sb2) ?_ ?_⟩
    · rintro i x Hx hx R
      obtain ⟨t, q, hq, rfl, sq⟩ := ar_at das hx
      have ark := ok.ar q (List.mem_of_getElem? hq)
      have tk : c.2.take (i + 1) = c.2.take i ++ [q] := by rw [List.take_add_one, hq]; rfl
      have fat : ∀ z : Int, 0 ≤ z → z < c.1.length → atI ((fstC c).map V.str) z = some (V.str ((fstC c).getD z.toNat "nil")) := fun z z0 z1 => by
        have hz : z.toNat < (fstC c).length := by omega
        have h1 : ((fstC c).map V.str)[z.toNat]? = some (V.str ((fstC c).getD z.toNat "nil")) := by
          rw [List.getElem?_map, List.getD_eq_getElem?_getD, List.getElem?_eq_getElem hz]
          rfl
        have := atI_nat h1
        rw [show ((z.toNat : Nat) : Int) = z by omega] at this
        exact this
      have dgw : DGet Hx p (.str q.2.1) (some (.str (wordK q.2.1))) := by
        have h := dgetS (f := V.str) (R.1 _ _ W19) q.2.1
        rcases ark.2.2.1 with e | e
        · rw [e] at h ⊢
          exact h
        · rw [e] at h ⊢
          exact h
      refine ⟨t, _, rfl, sameT ((sm.trans s019).trans R.1) sq, rfl, _, _, rfl, _, _, rfl, _, _, rfl, rfl, rfl, ?_⟩
      refine ⟨_, rfl, _, rfl, p, _, rfl, dgw, _, rfl, _, rfl, F, _, _, _, rfl, rfl, SqL.of (R.1 _ _ F19), fat _ ark.1 ark.2.1, _, rfl, _, rfl, F, _, _, _, rfl, rfl, SqL.of (R.1 _ _ F19), fat _ ark.2.2.2.1 ark.2.2.2.2, by show 3 ≤ sizeLine; decide, fun tt htt => ?_⟩
      obtain ⟨acc, h1, h2, h3⟩ := rows_add hD R htt (wordK q.2.1, (fstC c).getD q.1.toNat "nil", (fstC c).getD q.2.2.toNat "nil")
      refine ⟨acc, h1, ?_, by rw [tk, List.map_append]; exact h3⟩
      rw [h2, List.length_map, List.length_take]
      omega
    rintro H20 R20
    rw [las, List.take_length] at R20
    have R20 : RowsAt H19 H20 D (ptC c) := R20
    have s20 := R20.1
    obtain ⟨us, hD20, pus⟩ := R20.in_
    refine ⟨D, _, rfl, .inl ⟨SqL.of hD20, fun t2 ht2 => ?_⟩⟩
    have s21 := sameAdd (o := .tup (us.map V.ref)) ht2
    have t221 : (upd H20 t2 (.tup (us.map V.ref))) t2 = some (.tup (us.map V.ref)) := upd_same
    generalize upd H20 t2 (.tup (us.map V.ref)) = H21 at s21 t221 ⊢
    refine ⟨by show 2 ≤ sizeLine; decide, fun z hz => ?_⟩
    have s22 := sameAdd (o := .tup [V.ref t1, V.ref t2]) hz
    have sZ := s20.trans (s21.trans s22)
    refine k (.ref z) _ (s019.trans sZ) ?_
    refine .tup (SqT.of upd_same) (.cons (.tup (SqT.of (sZ _ _ t119)) (daall_rows (paired_mpL pts fun t r h => (s19.trans sZ) _ _ h))) (.cons (.tup (SqT.of (s22 _ _ t221)) (daall_rows (paired_mpL pus fun t r h => (s21.trans s22) _ _ h))) .nil))
end
end L2.Hx

/-! What is heard of clause_of: a clause, or that it is refused. -/
namespace L2.Hx
open PySem PySem.Spec PyProof.Rows
theorem pss_if {X : Cx} {p : Prop} {st : List Stmt} {t : TS} (h : p → PSs X st t) : PSs X st (fun D σ H => p ∧ t D σ H) := ⟨fun pins s σ H D I hw => (h hw.1).run pins s σ H D I hw.2⟩
abbrev unD : PyData := .list [.str "unfit", .bool true]
abbrev toldD (c : Cs) : PyData := .list [.str "told", clD (lkC c) (ptC c)]
def heardD (c : Cs) : PyData := if Bare c then unD else toldD c
/-- what is heard: dd, and where it is told, its list of two -/
def spHeard (K : PySem.W.Frag) : Sp := fun vs H Q _ => ∃ (n v : V) (nm : Bool) (G : Hp) (ns : List Str) (c : Cs), vs = [n, v, .bl nm] ∧ Same G H ∧ Da K G v (caseD c) ∧ CaseOk ns c ∧ ns.length ≤ 8 ∧ (∀ n ∈ ns, Shp (.str n)) ∧
  ∀ (z : Addr) (u w : V) (H' : Hp), Same H H' → H' z = some (.lst [u, w]) → Da K H' (.ref z) (heardD c) → (¬ Bare c → Da K H' w (clD (lkC c) (ptC c))) → Q (.ref z) H'
section
variable {P : Program} {w : World} {K : PySem.W.Frag} {mg : Str → Option Value} {base : Heap}
theorem D_l_heard (T : Txt K mg) : Df P w K mg base 3 "_law_heard" ["names", "case", "is_named"] (spHeard K) := by
  obtain ⟨C, CH, hU, hHE, hkit⟩ := T.e_Unfit
  have D_clause_of := D_clause_of (P := P) (w := w) (base := base) T hU
  have DK_clause_of := D_clause_of.kw (ks := ["case", "names"]) (g := swap2) (fun _ _ _ _ _ _ ws hl => match ws, hl with | [_, _], _ => rfl)
  obtain ⟨f, fd, S⟩ := T.d_l_heard
  refine Df.mk' (k := 2) S sc_l_heard (fun vs H Q E h => ?_) (fun cdv A outer s H vs Q E hgd hr h => ?_)
  · obtain ⟨n, v, nm, G, ns, c, rfl, _⟩ := h
    rfl
  · obtain ⟨n, v, nm, G, ns, c, rfl, sm, da, ok, l8, shp, k⟩ := h
    have hu := hu_of hr
    have big : (2000 : Nat) ≤ sizeLine := by decide
    refine ⟨_, pss_one (ps_try_as (i := 3) (tb := fun W => tRet (tLst (tCons (tC (.str "told")) (tCons (tIf (tB (tVar 2)) (tKwS (spClause K C) swap2 2 (WE W) (tCons (tVar 1) (tCons (tVar 0) tNil))) (tCallS (spClause K C) (WE W) (tCons (tVar 0) (tCons (tVar 1) tNil)))) tNil))))
      (ts := fun a cls d D σ H => (cls = .ref C ∧ d = none) ∧ tRet (tLst (tCons (tC (.str "unfit")) (tCons (tCB (rIsE K C a) (tCons (tVar 3) (tCons (tC (.ref CH)) tNil))) tNil))) D σ H) (Wout := fun _ _ _ _ => False) rfl rfl sc_l_heard.nd rfl rfl ⟨rfl, by decide, .inl hU.at_⟩ takes0
      (fun W pn xe tk _ => pss_one (ps_ret (pe_lst (pa_cons pe_str (pa_cons (pe_ifExp (pt_val (pv 2)) (pe_kwS DK_clause_of hgd hr (fun σ => passAt tk σ) (pk_cons (pv 1) (pk_cons (pv 0) pk_nil)) swap2_rel) (pe_dS D_clause_of hgd hr (fun σ => passAt tk σ) (pa_cons (pv 0) (pa_cons (pv 1) pa_nil)))) pa_nil)))))
      (fun a oe cls d pn hz hf => pss_if fun hcd => pss_one (ps_ret (pe_lst (pa_cons pe_str (pa_cons (pe_callB (call_isE hU.is_ (by rw [hcd.1, hcd.2] at hz; exact hz) hf) (by rfl) T.b_isinstance (by decide +kernel) (pa_cons (pv 3) (pa_cons (pe_glob (v := .ref CH) (by rfl) hHE rfl) pa_nil))) pa_nil)))))), ?_⟩
    refine ⟨_, rfl, nm, rfl, iteB (fun _ => ⟨_, rfl, _, rfl, rfl, ?_⟩) (fun _ => ⟨_, rfl, _, rfl, ?_⟩)⟩
    all_goals
      refine ⟨n, v, G, ns, c, rfl, sm, da, ok, l8, shp, fun hB H1 s1 => ?_, fun hB z H1 s1 dz => ?_⟩
      · refine ⟨true, hU.exm, fun _ a ha => ⟨⟨rfl, rfl⟩, ?_⟩, fun q => Bool.noConfusion q⟩
        refine ⟨_, rfl, V.ref CH, .ref CH, true, rfl, fun u r => r, hkit, by show 2 ≤ sizeLine; decide, fun L hL => ?_⟩
        refine k L _ _ _ (s1.trans (sameAdd hL)) upd_same ?_ (fun h => absurd hB h)
        unfold heardD
        rw [if_pos hB]
        exact .lst upd_same (.cons (.str _) (.cons (.bl _) .nil))
      · refine ⟨by show 2 ≤ sizeLine; decide, fun L hL => ?_⟩
        refine k L _ _ _ (s1.trans (sameAdd hL)) upd_same ?_ (fun _ => dz.mono (sameAdd hL))
        unfold heardD
        rw [if_neg hB]
        exact .lst upd_same (.cons (.str _) (.cons (dz.mono (sameAdd hL)) .nil))
end
end L2.Hx

/-! The clause of a case lies along it. -/
namespace L2.Hx
open PySem PySem.Spec PyProof.Rows
section
variable {ns : List Str} {c : Cs}
theorem w_name (ok : CaseOk ns c) (nd : ns.Nodup) (nn : ¬ ("nil" : Str) ∈ ns) {i : Nat} {l : List Str} {n : Str} (hl : c.1[i]? = some l) (mn : n ∈ l) : wSp c n = (i : Int) := by
  have mf : n ∈ c.1.flatten := List.mem_flatten.mpr ⟨l, List.mem_of_getElem? hl, mn⟩
  have ne : n ≠ "nil" := fun e => nn (by rw [← e]; exact ok.perm.mem_iff.mp mf)
  unfold wSp spotF
  rw [if_neg ne, find_uniq (ok.perm.nodup_iff.mpr nd) hl mn]
theorem fst_len (h : 0 < c.1.length) : (fstC c).length = c.1.length := by
  unfold fstC
  rw [List.length_cons, List.length_map, List.length_drop]
  omega
theorem fst_at (hB : ¬ Bare c) {i : Nat} {l : List Str} (hl : c.1[i + 1]? = some l) : (fstC c)[i + 1]? = some (l.headD "nil") ∧ l.headD "nil" ∈ l := by
  have h2 : (c.1.drop 1)[i]? = some l := by
    rw [List.getElem?_drop, Nat.add_comm]
    exact hl
  have ne : l ≠ [] := fun e => hB (show ([] : List Str) ∈ c.1.drop 1 from e ▸ List.mem_of_getElem? h2)
  refine ⟨?_, ?_⟩
  · unfold fstC
    rw [List.getElem?_cons_succ, List.getElem?_map, h2]
    rfl
  · cases l with
    | nil => exact absurd rfl ne
    | cons n r => exact List.mem_cons_self
theorem w_first (ok : CaseOk ns c) (nd : ns.Nodup) (nn : ¬ ("nil" : Str) ∈ ns) (hB : ¬ Bare c) {i : Nat} {f : Str} (hf : (fstC c)[i]? = some f) : wSp c f = (i : Int) ∧ (i = 0 → f = "nil") := by
  have lf := fst_len ok.pos
  have hi := (List.getElem?_eq_some_iff.mp hf).1
  cases i with
  | zero =>
    have : f = "nil" := (Option.some.inj hf).symm
    rw [this]
    exact ⟨rfl, fun _ => rfl⟩
  | succ i =>
    have hl := List.getElem?_eq_getElem (show i + 1 < c.1.length by omega)
    obtain ⟨h1, h2⟩ := fst_at hB hl
    rw [hf] at h1
    rw [Option.some.inj h1]
    exact ⟨w_name ok nd nn hl h2, fun e => by omega⟩
theorem getD_at {i : Nat} (h : i < (fstC c).length) : (fstC c)[i]? = some ((fstC c).getD i "nil") := by
  rw [List.getD_eq_getElem?_getD, List.getElem?_eq_getElem h]
  rfl
theorem look_is {w : Str → Int} {a b : Str} (h : w a = w b) : lookF w ("is", a, b) = true := by
  unfold lookF
  show (decide (w a = w b) == decide (("is" : Str) = "is")) = true
  rw [decide_eq_true h, decide_eq_true rfl]
  rfl
theorem look_isnt {w : Str → Int} {a b : Str} (h : ¬ w a = w b) : lookF w ("isnt", a, b) = true := by
  unfold lookF
  show (decide (w a = w b) == decide (("isnt" : Str) = "is")) = true
  rw [decide_eq_false h, decide_eq_false (by decide)]
  rfl
theorem looks_own (ok : CaseOk ns c) (nd : ns.Nodup) (nn : ¬ ("nil" : Str) ∈ ns) (hB : ¬ Bare c) : looksF (wSp c) (lkC c) = true := by
  have lf := fst_len ok.pos
  unfold looksF lkC
  rw [List.all_append, List.all_append, List.all_append, Bool.and_eq_true, Bool.and_eq_true, Bool.and_eq_true, List.all_eq_true, List.all_eq_true, List.all_eq_true, List.all_eq_true]
  refine ⟨⟨⟨fun r m => ?_, fun r m => ?_⟩, fun r m => ?_⟩, fun r m => ?_⟩
  · obtain ⟨n, mn, rfl⟩ := List.mem_map.mp m
    refine look_is ?_
    have h0 : c.1[0]? = some (c.1.headD []) := by
      cases hc : c.1 with
      | nil =>
        have := ok.pos
        rw [hc] at this
        exact absurd this (by decide)
      | cons x r => rfl
    rw [w_name ok nd nn h0 mn]
    rfl
  · obtain ⟨l, ml, m⟩ := List.mem_flatMap.mp m
    obtain ⟨n, mn, rfl⟩ := List.mem_map.mp m
    obtain ⟨i, hi⟩ := List.mem_iff_getElem?.mp ml
    have hl : c.1[i + 1]? = some l := by
      rw [List.getElem?_drop, Nat.add_comm] at hi
      exact hi
    refine look_is ?_
    rw [w_name ok nd nn hl (fst_at hB hl).2, w_name ok nd nn hl (List.mem_of_mem_drop mn)]
  · obtain ⟨f, mf, rfl⟩ := List.mem_map.mp m
    obtain ⟨i, hi⟩ := List.mem_iff_getElem?.mp mf
    rw [List.getElem?_drop] at hi
    refine look_isnt fun e => ?_
    rw [(w_first ok nd nn hB hi).1] at e
    have : wSp c "nil" = 0 := rfl
    omega
  · obtain ⟨i, mi, m⟩ := List.mem_flatMap.mp m
    have il := List.mem_range.mp mi
    unfold lkE at m
    split at m
    · exact absurd m List.not_mem_nil
    · obtain ⟨o, mo, rfl⟩ := List.mem_map.mp m
      obtain ⟨k, hk⟩ := List.mem_iff_getElem?.mp mo
      rw [List.getElem?_drop] at hk
      refine look_isnt fun e => ?_
      rw [(w_first ok nd nn hB hk).1, (w_first ok nd nn hB (getD_at il)).1] at e
      omega
theorem parts_own (ok : CaseOk ns c) (nd : ns.Nodup) (nn : ¬ ("nil" : Str) ∈ ns) (hB : ¬ Bare c) (hk : ∀ q ∈ c.2, q.2.1 = "short" ∨ (q.2.1 = "long" ∧ q.2.2 ≠ q.1)) :
    ∀ (rest pre : List Ar), pre ++ rest = c.2 → partsF (keysA (ldA c)) (mapA (ldA c)) (keysA (shA c)) (wSp c) (pre.map fun q => q.1) (rest.map fun q => (wordK q.2.1, (fstC c).getD q.1.toNat "nil", (fstC c).getD q.2.2.toNat "nil")) = some (c.2.map fun q => q.1)
  | [], pre, e => by
    rw [List.append_nil] at e
    rw [e]
    rfl
  | q :: rest, pre, e => by
    have lf := fst_len ok.pos
    have mq : q ∈ c.2 := by rw [← e]; exact List.mem_append_right _ List.mem_cons_self
    have a := ok.ar q mq
    have h1 := (w_first ok nd nn hB (getD_at (c := c) (i := q.1.toNat) (by omega))).1
    have h2 := (w_first ok nd nn hB (getD_at (c := c) (i := q.2.2.toNat) (by omega))).1
    rw [show ((q.1.toNat : Nat) : Int) = q.1 by omega] at h1
    rw [show ((q.2.2.toNat : Nat) : Int) = q.2.2 by omega] at h2
    obtain ⟨k, hq⟩ := List.mem_iff_getElem?.mp mq
    have hM := map_row ok hq
    have kin : q.1 ∈ keysA (ldA c) := by
      rw [ldA_keys]
      exact List.mem_map.mpr ⟨q, mq, rfl⟩
    have notin : ¬ q.1 ∈ pre.map fun q => q.1 := fun m => by
      have nd2 := ok.bnd
      rw [← e, List.map_append] at nd2
      exact (List.nodup_append.mp nd2).2.2 _ m _ (List.mem_map.mpr ⟨q, List.mem_cons_self, rfl⟩) rfl
    have step : partP (keysA (ldA c)) (mapA (ldA c)) (keysA (shA c)) (wSp c) (pre.map fun q => q.1) (wordK q.2.1, (fstC c).getD q.1.toNat "nil", (fstC c).getD q.2.2.toNat "nil") = some ((pre ++ [q]).map fun q => q.1) := by
      rw [List.map_append]
      show _ = some ((pre.map fun q => q.1) ++ [q.1])
      unfold partP
      rcases hk q mq with ek | ⟨ek, ne⟩
      · have ew : wordK q.2.1 = "cell" := by
          unfold wordK
          rw [if_pos ek]
        rw [if_pos (show (wordK q.2.1, (fstC c).getD q.1.toNat "nil", (fstC c).getD q.2.2.toNat "nil").1 = "cell" from ew)]
        show (if wSp c ((fstC c).getD q.1.toNat "nil") ∈ keysA (shA c) ∧ _ then some ((pre.map fun q => q.1) ++ [wSp c ((fstC c).getD q.1.toNat "nil")]) else none) = _
        rw [h1, if_pos]
        refine ⟨?_, notin, ?_⟩
        · rw [shA_keys]
          exact List.mem_map.mpr ⟨q, List.mem_filter.mpr ⟨mq, decide_eq_true ek⟩, rfl⟩
        · show mapA (ldA c) q.1 = wSp c ((fstC c).getD q.2.2.toNat "nil")
          rw [h2, hM]
      · have ew : ¬ wordK q.2.1 = "cell" := by
          unfold wordK
          rw [ek]
          decide
        rw [if_neg (show ¬ (wordK q.2.1, (fstC c).getD q.1.toNat "nil", (fstC c).getD q.2.2.toNat "nil").1 = "cell" from ew)]
        show roadF _ _ (wSp c ((fstC c).getD q.2.2.toNat "nil")) (wSp c ((fstC c).getD q.1.toNat "nil")) _ = _
        rw [h1, h2, roadF_on (fun z => ne z.symm) kin notin, hM, roadF_end rfl]
    rw [List.map_cons]
    unfold partsF
    rw [step]
    exact parts_own ok nd nn hB hk rest (pre ++ [q]) (by rw [List.append_assoc]; exact e)
theorem taken_own (ok : CaseOk ns c) (nd : ns.Nodup) (nn : ¬ ("nil" : Str) ∈ ns) (hB : ¬ Bare c) (hk : ∀ q ∈ c.2, q.2.1 = "short" ∨ (q.2.1 = "long" ∧ q.2.2 ≠ q.1)) :
    takenF (keysA (ldA c)) (mapA (ldA c)) (keysA (shA c)) (wSp c) (lkC c) (ptC c) = some (c.2.map fun q => q.1) := by
  unfold takenF
  rw [if_pos (looks_own ok nd nn hB)]
  exact parts_own ok nd nn hB hk c.2 [] rfl
/-- the terms of the clause are names or nil -/
theorem fst_term (ok : CaseOk ns c) (hB : ¬ Bare c) {f : Str} (m : f ∈ fstC c) : TmOk ns f := by
  obtain ⟨i, hi⟩ := List.mem_iff_getElem?.mp m
  have lf := fst_len ok.pos
  have il := (List.getElem?_eq_some_iff.mp hi).1
  cases i with
  | zero => exact .inl (Option.some.inj hi).symm
  | succ i =>
    have hl := List.getElem?_eq_getElem (show i + 1 < c.1.length by omega)
    obtain ⟨h1, h2⟩ := fst_at hB hl
    rw [hi] at h1
    rw [Option.some.inj h1]
    exact .inr (ok.perm.mem_iff.mp (List.mem_flatten.mpr ⟨_, List.mem_of_getElem? hl, h2⟩))
end
end L2.Hx

/-! All homes of some names. -/
namespace L2.Hx
open PySem PySem.Spec PyProof.Rows
def maxH (hm : Hm) : Int := (hm.map Prod.snd).foldl max 0
def growH (n : Str) (hm : Hm) : List Hm := (List.range (maxH hm + 2).toNat).map fun s : Nat => putA hm n (s : Int)
def homesF (ns : List Str) : List Hm := ns.foldl (fun got n => got.flatMap (growH n)) [[("nil", 0)]]
theorem foldmax : ∀ (l : List Int) (a : Int), a ≤ l.foldl max a ∧ (∀ x ∈ l, x ≤ l.foldl max a) ∧ (l.foldl max a = a ∨ l.foldl max a ∈ l)
  | [], a => ⟨Int.le_refl _, fun x m => absurd m List.not_mem_nil, .inl rfl⟩
  | y :: l, a => by
    obtain ⟨h1, h2, h3⟩ := foldmax l (max a y)
    show a ≤ l.foldl max (max a y) ∧ (∀ x ∈ y :: l, x ≤ l.foldl max (max a y)) ∧ (l.foldl max (max a y) = a ∨ l.foldl max (max a y) ∈ y :: l)
    refine ⟨by omega, fun x m => ?_, ?_⟩
    · rcases List.mem_cons.mp m with e | m
      · omega
      · exact h2 x m
    · rcases h3 with h3 | h3
      · by_cases c : a ≤ y
        · exact .inr (List.mem_cons.mpr (.inl (by omega)))
        · exact .inl (by omega)
      · exact .inr (List.mem_cons_of_mem _ h3)
/-- a home of k names -/
structure HmB (k : Nat) (hm : Hm) : Prop where
  ne : hm ≠ []
  len : hm.length ≤ k + 1
  val : ∀ q ∈ hm, 0 ≤ q.2 ∧ q.2 ≤ k
theorem HmB.top {k : Nat} {hm : Hm} (h : HmB k hm) : 0 ≤ maxH hm ∧ maxH hm ≤ k ∧ maxH hm ∈ hm.map Prod.snd ∧ ∀ x ∈ hm.map Prod.snd, x ≤ maxH hm := by
  obtain ⟨h1, h2, h3⟩ := foldmax (hm.map Prod.snd) 0
  have hv : ∀ x ∈ hm.map Prod.snd, 0 ≤ x ∧ x ≤ k := fun x m => by
    obtain ⟨q, mq, rfl⟩ := List.mem_map.mp m
    exact h.val q mq
  have hin : maxH hm ∈ hm.map Prod.snd := by
    rcases h3 with h3 | h3
    · obtain ⟨q, r, e⟩ := List.exists_cons_of_ne_nil h.ne
      have mq : q.2 ∈ hm.map Prod.snd := by rw [e]; exact List.mem_cons_self
      have a := hv _ mq
      have b := h2 _ mq
      have : maxH hm = q.2 := by
        show (hm.map Prod.snd).foldl max 0 = q.2
        omega
      rw [this]
      exact mq
    · exact h3
  exact ⟨h1, (hv _ hin).2, hin, h2⟩
theorem grow_ok {k : Nat} {hm x : Hm} {n : Str} (h : HmB k hm) (m : x ∈ growH n hm) : HmB (k + 1) x := by
  obtain ⟨s, ms, rfl⟩ := List.mem_map.mp m
  have hs := List.mem_range.mp ms
  obtain ⟨m0, m1, _, _⟩ := h.top
  refine ⟨?_, ?_, fun q mq => ?_⟩
  · unfold putA
    split
    · exact fun e => h.ne (List.map_eq_nil_iff.mp e)
    · exact fun e => by simp at e
  · have := putA_len hm n (s : Int)
    have := h.len
    omega
  · have old : ∀ q ∈ hm, 0 ≤ q.2 ∧ q.2 ≤ ((k + 1 : Nat) : Int) := fun q mq => by
      have := h.val q mq
      omega
    have new : 0 ≤ (s : Int) ∧ (s : Int) ≤ ((k + 1 : Nat) : Int) := by omega
    unfold putA at mq
    split at mq
    · obtain ⟨z, mz, rfl⟩ := List.mem_map.mp mq
      split
      · exact new
      · exact old z mz
    · rcases List.mem_append.mp mq with mq | mq
      · exact old q mq
      · rw [List.mem_singleton.mp mq]
        exact new
theorem grow_len {k : Nat} {hm : Hm} {n : Str} (h : HmB k hm) : (growH n hm).length ≤ k + 2 := by
  obtain ⟨_, m1, _⟩ := h.top
  unfold growH
  rw [List.length_map, List.length_range]
  omega
theorem homes_up (ns : List Str) {i : Nat} {n : Str} (h : ns[i]? = some n) : homesF (ns.take (i + 1)) = (homesF (ns.take i)).flatMap (growH n) := by
  unfold homesF
  rw [List.take_add_one, h]
  show (ns.take i ++ [n]).foldl _ _ = _
  rw [List.foldl_append]
  rfl
theorem homes_ok (ns : List Str) : ∀ i, i ≤ ns.length → ∀ hm ∈ homesF (ns.take i), HmB i hm
  | 0, _ => fun hm m => by
    rw [List.take_zero] at m
    rw [List.mem_singleton.mp m]
    exact ⟨List.cons_ne_nil _ _, Nat.le_refl _, fun q mq => by rw [List.mem_singleton.mp mq]; exact ⟨Int.le_refl _, Int.le_refl _⟩⟩
  | i + 1, hi => fun hm m => by
    have hn := List.getElem?_eq_getElem (show i < ns.length by omega)
    rw [homes_up ns hn] at m
    obtain ⟨z, mz, m⟩ := List.mem_flatMap.mp m
    exact grow_ok (homes_ok ns i (by omega) z mz) m
theorem homes_len (ns : List Str) (h3 : ns.length ≤ 3) : ∀ i, i ≤ ns.length → (homesF (ns.take i)).length ≤ 5 ^ i
  | 0, _ => Nat.le_refl _
  | i + 1, hi => by
    have hn := List.getElem?_eq_getElem (show i < ns.length by omega)
    rw [homes_up ns hn]
    have h1 := homes_len ns h3 i (by omega)
    have h2 := flat_len (f := growH (ns[i]'(by omega))) (m := 5) (L := homesF (ns.take i)) fun x m => Nat.le_trans (grow_len (homes_ok ns i (by omega) x m)) (by omega)
    rw [Nat.pow_succ]
    omega
abbrev hmT (hm : Hm) : HO := .dK (kvK Sum.inr V.int hm)
def HmsAt (H0 Hx : Hp) (g : Addr) (hms : List Hm) : Prop := Same H0 Hx ∧ ∃ ds : List Addr, Hx g = some (.lst (ds.map V.ref)) ∧ Paired (fun (d : Addr) (hm : Hm) => d ≠ g ∧ Hx d = some (hmT hm)) ds hms
theorem hms_add {H0 Hx : Hp} {g : Addr} {hms : List Hm} (hg : H0 g = none) (R : HmsAt H0 Hx g hms) {d : Addr} (hd : Hx d = none) {o : HO} (hm : Hm) :
    ∃ acc, (upd (upd Hx d o) d (hmT hm)) g = some (.lst acc) ∧ acc.length = hms.length ∧ HmsAt H0 (upd (upd (upd Hx d o) d (hmT hm)) g (.lst (acc ++ [.ref d]))) g (hms ++ [hm]) := by
  obtain ⟨s, ds, h, p⟩ := R
  have n : d ≠ g := fun e => by rw [e, h] at hd; cases hd
  have sd : Same Hx (upd (upd Hx d o) d (hmT hm)) := sameOut (sameAdd hd) hd
  refine ⟨ds.map V.ref, sd _ _ h, by rw [List.length_map]; exact Paired.length p, sameOut (s.trans sd) hg, ds ++ [d], by rw [upd_same, List.map_append]; rfl, ?_⟩
  refine paired_snoc (paired_mpL p fun u q hq => ⟨hq.1, ?_⟩) ⟨n, by rw [upd_ne n, upd_same]⟩
  rw [upd_ne hq.1]
  exact sd _ _ hq.2
theorem hms_keep {H0 Hx Hy : Hp} {g : Addr} {hms : List Hm} (s : Same Hx Hy) (R : HmsAt H0 Hx g hms) : HmsAt H0 Hy g hms := by
  obtain ⟨s0, ds, h, p⟩ := R
  exact ⟨s0.trans s, ds, s _ _ h, paired_mpL p fun t r h => ⟨h.1, s _ _ h.2⟩⟩
def spHomes (K : PySem.W.Frag) : Sp := fun vs H Q _ => ∃ (nt : Addr) (ns : List Str), vs = [.ref nt] ∧ SqT K H nt (ns.map V.str) ∧ ns.length ≤ 3 ∧
  ∀ (L : Addr) (ds : List Addr) (H' : Hp), Same H H' → H' L = some (.lst (ds.map V.ref)) → Paired (fun (d : Addr) (hm : Hm) => H' d = some (hmT hm)) ds (homesF ns) → Q (.ref L) H'
section
variable {P : Program} {w : World} {K : PySem.W.Frag} {mg : Str → Option Value} {base : Heap}
theorem D_l_homes (T : Txt K mg) : Df P w K mg base 1 "_law_homes" ["names"] (spHomes K) := by
  obtain ⟨f, fd, S⟩ := T.d_l_homes
  refine Df.mk' (k := 0) S sc_l_homes (fun vs H Q E h => ?_) (fun cdv A outer s H vs Q E hgd hr h => ?_)
  · obtain ⟨nt, ns, rfl, _⟩ := h
    rfl
  · obtain ⟨nt, ns, rfl, snt, l3, k⟩ := h
    have hu := hu_of hr
    have big : (5000 : Nat) ≤ sizeLine := by decide
    refine ⟨_, (pss_cons (ps_set (i := 1) sc_l_homes.nd rfl (.inl rfl) (pe_lst (pa_cons (pe_disp (pps_cons pe_str pe_int pps_nil) (by rfl) (by rfl) (fun z => by cases z) (by decide)) pa_nil)))
      (pss_cons (ps_for PassesOwn.never rfl (pi_tup (pv 0)) (pg_name (i := 2) sc_l_homes.nd rfl (.inl rfl))
      (pss_cons (ps_par (i := 3) (j := 1) (by rfl) sc_l_homes.nd rfl rfl (by decide) rfl rfl (pa_cons (pv 1) (pa_cons (pe_lst pa_nil) pa_nil)) (by rfl))
      (pss_one (ps_for PassesOwn.never rfl (pi_list (pv 3)) (pg_name (i := 4) sc_l_homes.nd rfl (.inl rfl))
      (pss_one (ps_for PassesOwn.never rfl (pi_range1 rfl T.b_range (pa_cons (pe_op op_add (pe_callB (cr_max rfl) (by rfl) T.b_max (by decide +kernel) (pa_cons (pe_listVals rfl (pv 4) (by rfl) T.b_list rfl) pa_nil)) pe_int) pa_nil)) (pg_name (i := 5) sc_l_homes.nd rfl (.inl rfl))
      (pss_cons (ps_set (i := 6) sc_l_homes.nd rfl (.inl rfl) (pe_callTy call_dictD (by rfl) T.b_dict (by decide +kernel) (pa_cons (pv 4) pa_nil)))
      (pss_cons (ps_dput hu (pv 6) (pv 2) (pv 5) rfl)
      (pss_one (ps_expr (pe_bm PySem.F.plainAttrs_list PySem.F.slot_list_append PySem.F.type_list_append mt_append (pv 1) (pa_cons (pv 6) pa_nil))))))))))))
      (pss_one (ps_ret (pv 1))))), ?_⟩
    refine fun d0 hd0 => ⟨upd_same, [(Sum.inr ("nil" : Str), V.int 0)], rfl, by show 1 ≤ 15; decide, by show 1 ≤ sizeLine; decide, fun g0 hg0 => ?_⟩
    have ed : (.dK (mergeK [] [(Sum.inr ("nil" : Str), V.int 0)]) : HO) = hmT [("nil", 0)] := rfl
    rw [ed] at hg0 ⊢
    have s1 : Same H (upd (upd (upd H d0 (.dK [])) d0 (hmT [("nil", 0)])) g0 (.lst [V.ref d0])) := (sameOut (sameAdd hd0) hd0).trans (sameAdd hg0)
    have g1 : (upd (upd (upd H d0 (.dK [])) d0 (hmT [("nil", 0)])) g0 (.lst [V.ref d0])) g0 = some (.lst (([d0] : List Addr).map V.ref)) := upd_same
    have d1 := sameAdd (o := .lst [V.ref d0]) hg0 _ _ (show (upd (upd H d0 (.dK [])) d0 (hmT [("nil", 0)])) d0 = some (hmT [("nil", 0)]) from upd_same)
    generalize upd (upd (upd H d0 (.dK [])) d0 (hmT [("nil", 0)])) g0 (.lst [V.ref d0]) = H1 at s1 g1 d1 ⊢
    dsimp only [gName, List.set]
    refine ⟨_, rfl, nt, rfl, ⟨_, sameT s1 snt⟩, for_tup (K := K) (a := nt) (xs := ns.map V.str) (fun i σ Hx => ∃ (o2 o3 o4 o5 o6 : Option V) (g : Addr) (ds : List Addr), σ = [some (.ref nt), some (.ref g), o2, o3, o4, o5, o6] ∧ Same H Hx ∧ Hx g = some (.lst (ds.map V.ref)) ∧ Paired (fun (d : Addr) (hm : Hm) => Hx d = some (hmT hm)) ds (homesF (ns.take i)))
      ⟨_, _, _, _, _, g0, [d0], rfl, s1, g1, .cons d1 .nil⟩ (fun i σ Hx _ ⟨_, _, _, _, _, _, _, _, s, _⟩ => sameT s snt) ?_ ?_⟩
    · rintro i x σ Hx hx ⟨o2, o3, o4, o5, o6, g, ds, rfl, sx, hg, pd⟩
      rw [List.getElem?_map] at hx
      obtain ⟨n, hn, rfl⟩ := Option.map_eq_some_iff.mp hx
      have il := (List.getElem?_eq_some_iff.mp hn).1
      have hok := homes_ok ns i (by omega)
      have hle := homes_len ns l3 i (by omega)
      dsimp only [gName, List.set]
      refine ⟨_, rfl, by show 0 ≤ sizeLine; exact Nat.zero_le _, fun g2 hg2 => ⟨_, _, rfl, ?_⟩⟩
      have lds : ds.length = (homesF (ns.take i)).length := Paired.length pd
      dsimp only [gName, List.set]
      refine ⟨_, rfl, g, rfl, ⟨_, SqL.of (sameAdd hg2 _ _ hg)⟩, for_list (K := K) (a := g) (xs := ds.map V.ref) (fun j σ Hy => ∃ (o4 o5 o6 : Option V), σ = [some (.ref nt), some (.ref g2), some (.str n), some (.ref g), o4, o5, o6] ∧ HmsAt Hx Hy g2 (((homesF (ns.take i)).take j).flatMap (growH n)))
        ⟨_, _, _, rfl, sameAdd hg2, [], upd_same, .nil⟩ (fun j σ Hy _ ⟨_, _, _, _, h⟩ => SqL.of (h.1 _ _ hg)) ?_ ?_⟩
      · rintro j y σ Hy hy ⟨o4, o5, o6, rfl, R⟩
        rw [List.getElem?_map] at hy
        obtain ⟨d, hd, rfl⟩ := Option.map_eq_some_iff.mp hy
        obtain ⟨hm, hhm, hdd⟩ := paired_at pd hd
        have okm := hok hm (List.mem_of_getElem? hhm)
        obtain ⟨m0, m1, m2, m3⟩ := okm.top
        have tk : (homesF (ns.take i)).take (j + 1) = (homesF (ns.take i)).take j ++ [hm] := by rw [List.take_add_one, hhm]; rfl
        have ev : (kvK Sum.inr V.int hm).map Prod.snd = (hm.map Prod.snd).map V.int := by unfold kvK; rw [List.map_map, List.map_map]; rfl
        have lfl : (((homesF (ns.take i)).take j).flatMap (growH n)).length ≤ 5 * 125 := by
          refine Nat.le_trans (flat_len (m := 5) fun x m => Nat.le_trans (grow_len (hok x (List.mem_of_mem_take m))) (by omega)) (Nat.mul_le_mul_left _ ?_)
          rw [List.length_take]
          have : 5 ^ i ≤ 5 ^ 3 := Nat.pow_le_pow_right (by decide) (by omega)
          omega
        dsimp only [gName, List.set]
        refine ⟨_, rfl, d, _, rfl, R.1 _ _ hdd, fun q hq => ?_⟩
        rw [ev]
        have sq := sameAdd (o := .lst ((hm.map Prod.snd).map V.int)) hq
        have Rq := hms_keep sq R
        refine ⟨q, hm.map Prod.snd, rfl, SqL.of upd_same, List.length_pos_of_mem m2, fun mx hmx hall => ?_⟩
        have em : mx = maxH hm := by
          have h1 := m3 mx hmx
          have h2 := hall _ m2
          omega
        subst em
        refine ⟨_, _, rfl, rfl, maxH hm + 2, rfl, by omega, by omega, for_range (lo := 0) (n := (maxH hm + 2).toNat) (fun s σ Hz => ∃ (o5 o6 : Option V), σ = [some (.ref nt), some (.ref g2), some (.str n), some (.ref g), some (.ref d), o5, o6] ∧ HmsAt Hx Hz g2 (((homesF (ns.take i)).take j).flatMap (growH n) ++ (List.range s).map fun s : Nat => putA hm n (s : Int)))
          ⟨_, _, rfl, by rw [List.range_zero, List.map_nil, List.append_nil]; exact Rq⟩ ?_ ?_⟩
        · rintro s σ Hz hs ⟨o5, o6, rfl, Rz⟩
          dsimp only [gName, List.set]
          refine ⟨_, rfl, d, _, rfl, .of (Rz.1 _ _ hdd), fun p hp => ?_⟩
          dsimp only [gName, List.set]
          obtain ⟨acc, h1, h2, h3⟩ := hms_add hg2 Rz hp (o := hmT hm) (putA hm n (s : Int))
          have lh := okm.len
          refine ⟨_, rfl, _, rfl, _, rfl, p, upd (upd Hz p (hmT hm)) p (hmT (putA hm n (s : Int))), rfl, by rw [Int.zero_add]; exact dputS (f := V.int) (l := hm) upd_same n (s : Int) (by omega), ?_⟩
          refine ⟨_, rfl, .inl ⟨rfl, _, SqL.of h1⟩, _, rfl, g2, acc, V.ref p, rfl, rfl, h1, ?_, _, _, rfl, ?_⟩
          · rw [h2, List.length_append, List.length_map, List.length_range]
            omega
          · rw [List.range_succ, List.map_append, ← List.append_assoc]
            exact h3
        · rintro σ Hz ⟨o5, o6, rfl, Rz⟩
          refine ⟨_, _, _, rfl, ?_⟩
          rw [tk, List.flatMap_append, List.flatMap_singleton]
          exact Rz
      · rintro σ Hy ⟨o4, o5, o6, rfl, R⟩
        rw [List.length_map, lds, List.take_length, ← homes_up ns hn] at R
        obtain ⟨s, es, h1, h2⟩ := R
        exact ⟨_, _, _, _, _, g2, es, rfl, sx.trans s, h1, paired_mpL h2 fun d hm h => h.2⟩
    · rintro σ Hx ⟨o2, o3, o4, o5, o6, g, ds, rfl, sx, hg, pd⟩
      rw [List.length_map, List.take_length] at pd
      exact ⟨_, rfl, k g ds Hx sx hg pd⟩
end
end L2.Hx

/-! The home that parts the names as w does is among all homes. -/
namespace L2.Hx
open PySem PySem.Spec PyProof.Rows
structure OwnH (w : Str → Int) (ks : List Str) (hm : Hm) : Prop where
  keys : ∀ a, a ∈ keysA hm ↔ a ∈ ks
  nil : getA hm "nil" = some 0
  like : ∀ a ∈ ks, ∀ b ∈ ks, getA hm a = getA hm b ↔ w a = w b
theorem own_home (w : Str → Int) (ns : List Str) (nd : (("nil" : Str) :: ns).Nodup) : ∀ i, i ≤ ns.length → ∃ hm ∈ homesF (ns.take i), OwnH w ("nil" :: ns.take i) hm
  | 0, _ => by
    refine ⟨[("nil", 0)], by rw [List.take_zero]; exact List.mem_singleton.mpr rfl, fun a => ?_, rfl, fun a ma b mb => ?_⟩
    · rw [List.take_zero]
      exact Iff.rfl
    · rw [List.take_zero] at ma mb
      rw [List.mem_singleton.mp ma, List.mem_singleton.mp mb]
      exact ⟨fun _ => rfl, fun _ => rfl⟩
  | i + 1, hi => by
    have hn := List.getElem?_eq_getElem (show i < ns.length by omega)
    generalize ns[i]'(by omega) = n at hn
    obtain ⟨hm, mh, O⟩ := own_home w ns nd i (by omega)
    have B := homes_ok ns i (by omega) hm mh
    obtain ⟨m0, _, m2, m3⟩ := B.top
    have tk : ns.take (i + 1) = ns.take i ++ [n] := by rw [List.take_add_one, hn]; rfl
    have fresh : ¬ n ∈ ("nil" : Str) :: ns.take i := fun m => by
      have nd2 : (("nil" : Str) :: ns.take (i + 1)).Nodup := nd.sublist (List.Sublist.cons_cons _ (List.take_sublist _ _))
      rw [tk, ← List.cons_append] at nd2
      exact (List.nodup_append.mp nd2).2.2 n m n List.mem_cons_self rfl
    have nnil : n ≠ "nil" := fun e => fresh (by rw [e]; exact List.mem_cons_self)
    have old : ∀ a ∈ ("nil" : Str) :: ns.take i, ∀ s : Int, getA (putA hm n s) a = getA hm a := fun a ma s => by
      rw [get_putA, if_neg fun e => fresh (by rw [← e]; exact ma)]
    have new : ∀ s : Int, getA (putA hm n s) n = some s := fun s => by rw [get_putA, if_pos rfl]
    -- a spot for n
    obtain ⟨s, s0, s1, hs⟩ : ∃ s : Int, 0 ≤ s ∧ s < maxH hm + 2 ∧ ∀ a ∈ ("nil" : Str) :: ns.take i, getA hm a = some s ↔ w a = w n := by
      by_cases h : ∃ a ∈ ("nil" : Str) :: ns.take i, w a = w n
      · obtain ⟨a, ma, ea⟩ := h
        obtain ⟨s, g, ms⟩ := getA_in ((O.keys a).mpr ma)
        have hv := B.val _ ms
        have hx := m3 s (List.mem_map.mpr ⟨_, ms, rfl⟩)
        refine ⟨s, hv.1, by omega, fun b mb => ?_⟩
        rw [← g, O.like b mb a ma, ea]
      · refine ⟨maxH hm + 1, by omega, by omega, fun b mb => ⟨fun g => ?_, fun e => absurd ⟨b, mb, e⟩ h⟩⟩
        have := m3 _ (List.mem_map.mpr ⟨_, getA_mem g, rfl⟩)
        have : maxH hm + 1 ≤ maxH hm := this
        omega
    refine ⟨putA hm n s, ?_, fun a => ?_, ?_, fun a ma b mb => ?_⟩
    · rw [homes_up ns hn]
      refine List.mem_flatMap.mpr ⟨hm, mh, List.mem_map.mpr ⟨s.toNat, List.mem_range.mpr (by omega), ?_⟩⟩
      rw [show ((s.toNat : Nat) : Int) = s by omega]
    · rw [putA_keys, O.keys, tk, ← List.cons_append, List.mem_append, List.mem_singleton]
    · rw [old _ List.mem_cons_self]
      exact O.nil
    · rw [tk, ← List.cons_append, List.mem_append, List.mem_singleton] at ma mb
      rcases ma with ma | ea
      · rcases mb with mb | eb
        · rw [old a ma, old b mb]
          exact O.like a ma b mb
        · rw [eb, old a ma, new]
          exact hs a ma
      · rcases mb with mb | eb
        · rw [ea, old b mb, new, eq_comm, hs b mb, eq_comm]
        · rw [ea, eb]
          exact ⟨fun _ => rfl, fun _ => rfl⟩
end L2.Hx

/-! All rows of spots, over plain lists: level by level. -/
namespace L2.Hx
open PySem PySem.Spec PyProof.Rows
def stepR (sp : List Int) (r : List Int) : List (List Int) := (sp.filter fun s => decide (¬ s ∈ r)).map fun s => r ++ [s]
def levR (sp : List Int) : Nat → List (List Int)
  | 0 => [[]]
  | k + 1 => (levR sp k).flatMap (stepR sp)
def gotR (sp : List Int) : Nat → List (List Int)
  | 0 => [[]]
  | k + 1 => gotR sp k ++ levR sp (k + 1)
theorem lev_ok {sp : List Int} : ∀ k, ∀ r ∈ levR sp k, r.length = k ∧ r.Nodup ∧ ∀ x ∈ r, x ∈ sp
  | 0 => fun r m => by
    rw [List.mem_singleton.mp m]
    exact ⟨rfl, List.nodup_nil, fun x m => absurd m List.not_mem_nil⟩
  | k + 1 => fun r m => by
    obtain ⟨z, mz, m⟩ := List.mem_flatMap.mp m
    obtain ⟨s, ms, rfl⟩ := List.mem_map.mp m
    obtain ⟨m1, m2⟩ := List.mem_filter.mp ms
    have m2 := of_decide_eq_true m2
    obtain ⟨h1, h2, h3⟩ := lev_ok k z mz
    refine ⟨by rw [List.length_append, List.length_singleton, h1], ?_, fun x m => ?_⟩
    · refine List.nodup_append.mpr ⟨h2, by simp, fun a ha b hb e => ?_⟩
      rw [List.mem_singleton.mp hb] at e
      exact m2 (by rw [← e]; exact ha)
    · rcases List.mem_append.mp m with m | m
      · exact h3 x m
      · rw [List.mem_singleton.mp m]
        exact m1
theorem lev_end {sp : List Int} {k : Nat} (h : sp.length < k) : levR sp k = [] := by
  cases e : levR sp k with
  | nil => rfl
  | cons r l =>
    obtain ⟨h1, h2, h3⟩ := lev_ok (sp := sp) k r (by rw [e]; exact List.mem_cons_self)
    have := once_len (T := r) (ks := sp) ⟨h2, h3⟩
    omega
theorem lev_len {sp : List Int} : ∀ k, (levR sp k).length ≤ sp.length ^ k
  | 0 => Nat.le_refl _
  | k + 1 => by
    have h1 := lev_len (sp := sp) k
    have h2 := flat_len (f := stepR sp) (m := sp.length) (L := levR sp k) fun r _ => by
      unfold stepR
      rw [List.length_map]
      exact List.length_filter_le _ _
    show ((levR sp k).flatMap (stepR sp)).length ≤ _
    rw [Nat.pow_succ, Nat.mul_comm]
    exact Nat.le_trans h2 (Nat.mul_le_mul_left _ h1)
theorem got_ok {sp : List Int} : ∀ k, ∀ r ∈ gotR sp k, r.Nodup ∧ ∀ x ∈ r, x ∈ sp
  | 0 => fun r m => (lev_ok 0 r m).2
  | k + 1 => fun r m => (List.mem_append.mp m).elim (got_ok k r) fun m => (lev_ok (k + 1) r m).2
theorem got_nil {sp : List Int} : ∀ k, ([] : List Int) ∈ gotR sp k
  | 0 => List.mem_singleton.mpr rfl
  | k + 1 => List.mem_append_left _ (got_nil k)
theorem got_len {sp : List Int} (h : sp.length ≤ 2) : ∀ k, k ≤ 3 → (gotR sp k).length ≤ 1 + 4 * k
  | 0, _ => by show 1 ≤ 1 + 4 * 0; omega
  | k + 1, hk => by
    have h1 := got_len h k (by omega)
    have h2 : (levR sp (k + 1)).length ≤ 4 := by
      by_cases e : sp.length < k + 1
      · rw [lev_end e]
        exact Nat.zero_le _
      · have h3 := lev_len (sp := sp) (k + 1)
        have h4 : sp.length ^ (k + 1) ≤ 2 ^ 2 := Nat.le_trans (Nat.pow_le_pow_left h _) (Nat.pow_le_pow_right (by decide) (by omega))
        omega
    show (gotR sp k ++ levR sp (k + 1)).length ≤ _
    rw [List.length_append]
    omega
end L2.Hx

/-! All rows of spots, as the law makes them. -/
namespace L2.Hx
open PySem PySem.Spec PyProof.Rows
abbrev inT (r : List Int) : HO := .tup (r.map V.int)
def RsIn (Hx : Hp) (L : Addr) (rs : List (List Int)) : Prop := ∃ ts : List Addr, Hx L = some (.lst (ts.map V.ref)) ∧ Paired (fun (t : Addr) (r : List Int) => Hx t = some (inT r)) ts rs
def RsAt (H0 Hx : Hp) (B : Addr) (rs : List (List Int)) : Prop := Same H0 Hx ∧ ∃ ts : List Addr, Hx B = some (.lst (ts.map V.ref)) ∧ Paired (fun (t : Addr) (r : List Int) => t ≠ B ∧ Hx t = some (inT r)) ts rs
theorem RsIn.mono {Hx Hy : Hp} {L : Addr} {rs : List (List Int)} (s : Same Hx Hy) (R : RsIn Hx L rs) : RsIn Hy L rs := by
  obtain ⟨ts, h, p⟩ := R
  exact ⟨ts, s _ _ h, paired_mpL p fun t r h => s _ _ h⟩
theorem RsAt.in_ {H0 Hx : Hp} {B : Addr} {rs : List (List Int)} (R : RsAt H0 Hx B rs) : RsIn Hx B rs := by
  obtain ⟨_, ts, h, p⟩ := R
  exact ⟨ts, h, paired_mpL p fun t r h => h.2⟩
theorem rs_add {H0 Hx Hy : Hp} {B : Addr} {rs : List (List Int)} (hB : H0 B = none) (R : RsAt H0 Hx B rs) (s : Same Hx Hy) {t : Addr} {r : List Int} (ht : Hy t = some (inT r)) :
    ∃ acc, Hy B = some (.lst acc) ∧ acc.length = rs.length ∧ RsAt H0 (upd Hy B (.lst (acc ++ [.ref t]))) B (rs ++ [r]) := by
  obtain ⟨s0, ts, h, p⟩ := R
  have hy := s _ _ h
  have n : t ≠ B := fun e => by rw [e, hy] at ht; cases ht
  refine ⟨ts.map V.ref, hy, by rw [List.length_map]; exact Paired.length p, sameOut (s0.trans s) hB, ts ++ [t], by rw [upd_same, List.map_append]; rfl, ?_⟩
  refine paired_snoc (paired_mpL p fun u q hq => ⟨hq.1, ?_⟩) ⟨n, by rw [upd_ne n]; exact ht⟩
  rw [upd_ne hq.1]
  exact s _ _ hq.2
theorem rs_both {Hx : Hp} {A B : Addr} {r1 r2 : List (List Int)} (R1 : RsIn Hx A r1) (R2 : RsIn Hx B r2) : ∃ xs ys, Hx A = some (.lst xs) ∧ Hx B = some (.lst ys) ∧ xs.length = r1.length ∧ ys.length = r2.length ∧ ∀ L, Hx L = none → RsIn (upd Hx L (.lst (xs ++ ys))) L (r1 ++ r2) := by
  obtain ⟨ts, h1, p1⟩ := R1
  obtain ⟨us, h2, p2⟩ := R2
  exact ⟨_, _, h1, h2, by rw [List.length_map]; exact Paired.length p1, by rw [List.length_map]; exact Paired.length p2, fun L hL => ⟨ts ++ us, by rw [upd_same, List.map_append], paired_append (paired_mpL p1 fun t r h => sameAdd hL _ _ h) (paired_mpL p2 fun t r h => sameAdd hL _ _ h)⟩⟩
def rD (r : List Int) : PyData := .tuple (r.map .int)
theorem shp_ints : ∀ r : List Int, Shp (rD r) := fun r => by
  have h : ∀ e ∈ r.map PyData.int, Shp e ∧ e.depth ≤ 1 := fun e m => by
    obtain ⟨i, _, rfl⟩ := List.mem_map.mp m
    exact ⟨⟨rfl, by simp [PyData.depth]⟩, by simp [PyData.depth]⟩
  refine ⟨by simpa [rD, PyData.canLay0] using (shp_all fun e m => (h e m).1).1, ?_⟩
  have := depthAll_le (n := 1) (xs := r.map PyData.int) fun e m => (h e m).2
  simp only [rD, PyData.depth]
  omega
theorem dp_rows {K : PySem.W.Frag} {Hx : Hp} : ∀ {ts : List Addr} {rs : List (List Int)}, Paired (fun (t : Addr) (r : List Int) => Hx t = some (inT r)) ts rs → DpAll K Hx (ts.map V.ref) (rs.map rD)
  | _, _, .nil => .nil
  | _, _, .cons h t => .cons (.tup (SqT.of h) (dp_ints _)) (dp_rows t)
def spRows (K : PySem.W.Frag) : Sp := fun vs H Q _ => ∃ (b : Addr) (sp : List Int), vs = [.ref b] ∧ SqL K H b (sp.map V.int) ∧ sp.length ≤ 2 ∧
  ∀ (L : Addr) (k : Nat) (H' : Hp), Same H H' → k ≤ 3 → levR sp k = [] → RsIn H' L (gotR sp k) → Q (.ref L) H'
section
variable {P : Program} {w : World} {K : PySem.W.Frag} {mg : Str → Option Value} {base : Heap}
theorem D_l_rows (T : Txt K mg) : Df P w K mg base 1 "_law_rows" ["spots"] (spRows K) := by
  obtain ⟨f, fd, S⟩ := T.d_l_rows
  refine Df.mk' (k := 0) S sc_l_rows (fun vs H Q E h => ?_) (fun cdv A outer s H vs Q E hgd hr h => ?_)
  · obtain ⟨b, sp, rfl, _⟩ := h
    rfl
  · obtain ⟨b, sp, rfl, sb, l2, k⟩ := h
    have big : (5000 : Nat) ≤ sizeLine := by decide
    refine ⟨_, (pss_cons (ps_par (i := 1) (j := 2) (by rfl) sc_l_rows.nd rfl rfl (by decide) rfl rfl (pa_cons (pe_lst (pa_cons (pe_tup pa_nil) pa_nil)) (pa_cons (pe_lst (pa_cons (pe_tup pa_nil) pa_nil)) pa_nil)) (by rfl))
      (pss_cons (ps_while PassesOwn.never (pt_cmpR (op_neD hr.units) (pv 2) (pe_lst pa_nil) (nomark _)) (pss_cons (ps_par (i := 3) (j := 2) (by rfl) sc_l_rows.nd rfl rfl (by decide) rfl rfl (pa_cons (pv 2) (pa_cons (pe_lst pa_nil) pa_nil)) (by rfl))
      (pss_cons (ps_for PassesOwn.never rfl (pi_list (pv 3)) (pg_name (i := 4) sc_l_rows.nd rfl (.inr rfl))
      (pss_one (ps_set (i := 2) sc_l_rows.nd rfl (.inl rfl) (pe_op op_cat (pv 2) (pe_lc (X := (cxOf CX0 P w K mg base ["spots", "got", "level", "elder", "row", "spot"] "_law_rows" (defScope s_l_rows) f cdv A outer s H E).nox) (own := [("spot", 5)]) (tt := tTest (tOp (rIn K true) (tVar 5) (tVar 4))) (te := tOp (rCatA K) (tVar 4) (tTup (tCons (tVar 5) tNil))) (g := gName 5) rfl sc_l_rows.nd (pi_list (pv 0)) (blkOk_by (own := [("spot", 5)]) (N := ["spots", "got", "level", "elder", "row", "spot"]) (sc := defScope s_l_rows) (by decide +kernel)) (fun _ _ _ _ _ => pg_name (i := 5) sc_l_rows.nd rfl (.inl rfl)) (fun _ _ _ _ _ => (pts_one (pt_cmpR op_notIn_seq (pv 5) (pv 4) (by rfl)))) (fun _ _ _ _ _ => (pe_op op_catA (pv 4) (pe_tup (pa_cons (pv 5) pa_nil)))))))))
      (pss_one (ps_set (i := 1) sc_l_rows.nd rfl (.inl rfl) (pe_op op_cat (pv 1) (pv 2)))))))
      (pss_one (ps_ret (pv 1))))), ?_⟩
    refine ⟨by show 0 ≤ sizeLine; exact Nat.zero_le _, fun e0 h0 => ⟨by show 1 ≤ sizeLine; decide, fun g0 hg0 => ⟨by show 0 ≤ sizeLine; exact Nat.zero_le _, fun e1 h1 => ⟨by show 1 ≤ sizeLine; decide, fun v0 hv0 => ⟨_, _, rfl, ?_⟩⟩⟩⟩⟩
    have s0 := (((sameAdd (o := .tup []) h0).trans (sameAdd (o := .lst [V.ref e0]) hg0)).trans (sameAdd (o := .tup []) h1)).trans (sameAdd (o := .lst [V.ref e1]) hv0)
    have x0 : RsIn (upd (upd (upd (upd H e0 (.tup [])) g0 (.lst [V.ref e0])) e1 (.tup [])) v0 (.lst [V.ref e1])) g0 (gotR sp 0) := ⟨[e0], ((sameAdd (o := .tup []) h1).trans (sameAdd (o := .lst [V.ref e1]) hv0)) _ _ upd_same, .cons (((sameAdd (o := .lst [V.ref e0]) hg0).trans ((sameAdd (o := .tup []) h1).trans (sameAdd (o := .lst [V.ref e1]) hv0))) _ _ upd_same) .nil⟩
    have y0 : RsIn (upd (upd (upd (upd H e0 (.tup [])) g0 (.lst [V.ref e0])) e1 (.tup [])) v0 (.lst [V.ref e1])) v0 (levR sp 0) := ⟨[e1], upd_same, .cons ((sameAdd (o := .lst [V.ref e1]) hv0) _ _ upd_same) .nil⟩
    generalize upd (upd (upd (upd H e0 (.tup [])) g0 (.lst [V.ref e0])) e1 (.tup [])) v0 (.lst [V.ref e1]) = H1 at s0 x0 y0 ⊢
    refine ⟨fun m σ Hx => ∃ (k : Nat) (o3 o4 o5 : Option V) (Lg Ll : Addr), m = 4 - k ∧ k ≤ 3 ∧ σ = [some (.ref b), some (.ref Lg), some (.ref Ll), o3, o4, o5] ∧ Same H Hx ∧ RsIn Hx Lg (gotR sp k) ∧ RsIn Hx Ll (levR sp k),
      ⟨4, 0, _, _, _, g0, v0, rfl, by decide, rfl, s0, x0, y0⟩, ?_⟩
    rintro m σ Hx ⟨k0, o3, o4, o5, Lg, Ll, rfl, hk, rfl, sx, Rg, Rl⟩
    refine ⟨_, rfl, by show 0 ≤ sizeLine; exact Nat.zero_le _, fun t ht => ?_⟩
    have st := sameAdd (o := .lst []) ht
    have tt : (upd Hx t (.lst [])) t = some (.lst []) := upd_same
    have Rg2 := Rg.mono st
    have Rl2 := Rl.mono st
    have sx2 := sx.trans st
    generalize upd Hx t (.lst []) = H2 at st tt Rg2 Rl2 sx2 ⊢
    obtain ⟨tl, hl, ptl⟩ := id Rl2
    have dl : Dp K H2 (.ref Ll) (.list ((levR sp k0).map rD)) := .lst (SqL.of hl) (dp_rows ptl)
    have dn : Dp K H2 (.ref t) (.list []) := .lst (SqL.of tt) .nil
    refine ⟨_, .list [], dl, dn, shaped_list (fun e m => by obtain ⟨r, _, rfl⟩ := List.mem_map.mp m; exact shp_ints r), rfl, _, rfl, ?_⟩
    rw [eqv_nilG]
    refine iteNot (fun hn => ?_) (fun hn => ?_)
    · have ne : levR sp k0 ≠ [] := fun e => by
        rw [e] at hn
        cases hn
      have k2 : k0 ≤ 2 := by
        by_cases h : sp.length < k0
        · exact absurd (lev_end h) ne
        · omega
      refine ⟨fun σ H5 => ∃ (o3 o4 o5 : Option V) (Lg2 Ll2 : Addr), σ = [some (.ref b), some (.ref Lg2), some (.ref Ll2), o3, o4, o5] ∧ Same H H5 ∧ RsIn H5 Lg2 (gotR sp (k0 + 1)) ∧ RsIn H5 Ll2 (levR sp (k0 + 1)),
        fun σ H5 ⟨o3, o4, o5, Lg2, Ll2, e, s, r1, r2⟩ => ⟨4 - (k0 + 1), by omega, k0 + 1, o3, o4, o5, Lg2, Ll2, rfl, by omega, e, s, r1, r2⟩, ?_⟩
      refine ⟨_, rfl, by show 0 ≤ sizeLine; exact Nat.zero_le _, fun e hE => ⟨_, _, rfl, ?_⟩⟩
      dsimp only [gName, List.set]
      have s3 := sameAdd (o := .lst []) hE
      have e3 : (upd H2 e (.lst [])) e = some (.lst (([] : List Addr).map V.ref)) := upd_same
      have Rg3 := Rg2.mono s3
      have hl3 := s3 _ _ hl
      have ptl3 := paired_mpL ptl fun t r h => s3 _ _ h
      have sx3 := sx2.trans s3
      generalize upd H2 e (.lst []) = H3 at s3 e3 Rg3 hl3 ptl3 sx3 ⊢
      have ltl : tl.length = (levR sp k0).length := Paired.length ptl3
      have lev4 : (levR sp k0).length ≤ 4 := by
        have h1 := lev_len (sp := sp) k0
        have h2 : sp.length ^ k0 ≤ 2 ^ 2 := Nat.le_trans (Nat.pow_le_pow_left l2 _) (Nat.pow_le_pow_right (by decide) k2)
        omega
      refine ⟨_, rfl, Ll, rfl, ⟨_, SqL.of hl3⟩, for_list (K := K) (a := Ll) (xs := tl.map V.ref) (fun j σ Hy => ∃ (o4 o5 : Option V) (Lj : Addr), σ = [some (.ref b), some (.ref Lg), some (.ref Lj), some (.ref Ll), o4, o5] ∧ Same H3 Hy ∧ RsIn Hy Lj (((levR sp k0).take j).flatMap (stepR sp)))
        ⟨_, _, e, rfl, Same.refl _, [], e3, .nil⟩ (fun j σ Hy _ ⟨_, _, _, _, s, _⟩ => SqL.of (s _ _ hl3)) ?_ ?_⟩
      · rintro j y σ Hy hy ⟨o4, o5, Lj, rfl, sy, Rj⟩
        rw [List.getElem?_map] at hy
        obtain ⟨tr, htr, rfl⟩ := Option.map_eq_some_iff.mp hy
        obtain ⟨r, hr2, hrow⟩ := paired_at ptl3 htr
        have tk : (levR sp k0).take (j + 1) = (levR sp k0).take j ++ [r] := by rw [List.take_add_one, hr2]; rfl
        dsimp only [gName, List.set]
        refine ⟨_, rfl, _, rfl, b, rfl, ⟨_, (sx3.trans sy).seq sb⟩, fun D hD => lc_list (K := K) (a := b) (xs := sp.map V.int) (fun i Hz => RsAt Hy Hz D (((sp.take i).filter fun s => decide (¬ s ∈ r)).map fun s => r ++ [s])) ⟨sameAdd hD, [], upd_same, .nil⟩ (fun i Hz _ h => ((sx3.trans sy).trans h.1).seq sb) ?_ ?_⟩
        · rintro i x Hz hx Rz
          rw [List.getElem?_map] at hx
          obtain ⟨s, hs, rfl⟩ := Option.map_eq_some_iff.mp hx
          have tk2 : sp.take (i + 1) = sp.take i ++ [s] := by rw [List.take_add_one, hs]; rfl
          have hrz := Rz.1 _ _ (sy _ _ hrow)
          refine ⟨rfl, _, rfl, _, rfl, tr, _, rfl, .inr (SqT.of hrz), rfl, flat_ints r, _, rfl, ?_⟩
          show if (!inV (.int s) (r.map V.int)) = true then _ else _
          rw [inV_int]
          have lfs : (((sp.take i).filter fun s => decide (¬ s ∈ r)).map fun s => r ++ [s]).length ≤ 2 := by
            rw [List.length_map]
            refine Nat.le_trans (List.length_filter_le _ _) ?_
            rw [List.length_take]
            omega
          have fin : ∀ (Hw : Hp) (t2 : Addr), ¬ s ∈ r → Same Hz Hw → Hw t2 = some (inT (r ++ [s])) → ∃ acc, Hw D = some (.lst acc) ∧ acc.length < sizeLine ∧ RsAt Hy (upd Hw D (.lst (acc ++ [.ref t2]))) D (((sp.take (i + 1)).filter fun s => decide (¬ s ∈ r)).map fun s => r ++ [s]) := fun Hw t2 hn sw h2 => by
            obtain ⟨acc, a1, a2, a3⟩ := rs_add hD Rz sw h2
            refine ⟨acc, a1, by omega, ?_⟩
            rw [tk2, List.filter_append, show [s].filter (fun s => decide (¬ s ∈ r)) = [s] by simp [hn], List.map_append]
            exact a3
          refine iteND (fun hn => ?_) (fun hn => ?_)
          · refine ⟨_, rfl, _, rfl, by show 1 ≤ sizeLine; decide, fun t2 ht2 => ?_⟩
            have s2 := sameAdd (o := .tup [V.int s]) ht2
            have t22 : (upd Hz t2 (.tup [V.int s])) t2 = some (.tup [V.int s]) := upd_same
            generalize upd Hz t2 (.tup [V.int s]) = H7 at s2 t22 ⊢
            refine ⟨tr, t2, r.map V.int, [V.int s], rfl, rfl, SqT.of (s2 _ _ hrz), SqT.of t22, ?_, fun e => ?_, fun _ e => absurd e (List.cons_ne_nil _ _), fun _ _ p hp => ?_⟩
            · have := (lev_ok k0 r (List.mem_of_getElem? hr2)).1
              rw [List.length_map, List.length_singleton]
              omega
            · have e0 : r = [] := List.map_eq_nil_iff.mp e
              exact fin H7 t2 hn s2 (by rw [e0]; exact t22)
            · exact fin _ p hn (s2.trans (sameAdd hp)) (by rw [upd_same]; show some (HO.tup (r.map V.int ++ [V.int s])) = some (HO.tup ((r ++ [s]).map V.int)); rw [List.map_append]; rfl)
          · rw [tk2, List.filter_append, show [s].filter (fun s => decide (¬ s ∈ r)) = [] by simp [hn], List.append_nil]
            exact Rz
        · rintro Hz Rz
          rw [List.length_map, List.take_length] at Rz
          have Rz : RsAt Hy Hz D (stepR sp r) := Rz
          have sz := Rz.1
          obtain ⟨xs9, ys9, x1, x2, x3, x4, x5⟩ := rs_both (Rj.mono sz) Rz.in_
          refine ⟨Lj, D, xs9, ys9, rfl, rfl, x1, x2, ?_, fun L hL => ?_⟩
          · have h1 := flat_len (f := stepR sp) (m := 2) (L := (levR sp k0).take j) fun x _ => by
              unfold stepR
              rw [List.length_map]
              exact Nat.le_trans (List.length_filter_le _ _) l2
            have h2 : ((levR sp k0).take j).length ≤ 4 := by
              rw [List.length_take]
              omega
            have h3 : (stepR sp r).length ≤ 2 := by
              unfold stepR
              rw [List.length_map]
              exact Nat.le_trans (List.length_filter_le _ _) l2
            omega
          · have R := x5 L hL
            refine ⟨_, _, L, rfl, sy.trans (sz.trans (sameAdd hL)), ?_⟩
            rw [tk, List.flatMap_append, List.flatMap_singleton]
            exact R
      · rintro σ Hy ⟨o4, o5, Lj, rfl, sy, Rj⟩
        rw [List.length_map, ltl, List.take_length] at Rj
        have Rj : RsIn Hy Lj (levR sp (k0 + 1)) := Rj
        obtain ⟨xs9, ys9, x1, x2, x3, x4, x5⟩ := rs_both (Rg3.mono sy) Rj
        refine ⟨_, rfl, _, rfl, Lg, Lj, xs9, ys9, rfl, rfl, x1, x2, ?_, fun L hL => ?_⟩
        · have h1 := got_len l2 k0 (by omega)
          have h2 := lev_len (sp := sp) (k0 + 1)
          have h3 : sp.length ^ (k0 + 1) ≤ 2 ^ 3 := Nat.le_trans (Nat.pow_le_pow_left l2 _) (Nat.pow_le_pow_right (by decide) (by omega))
          omega
        · have sL := sameAdd (o := .lst (xs9 ++ ys9)) hL
          exact ⟨_, _, _, L, Lj, rfl, sx3.trans (sy.trans sL), x5 L hL, Rj.mono sL⟩
    · refine ⟨_, rfl, k Lg k0 H2 sx2 hk ?_ Rg2⟩
      exact List.map_eq_nil_iff.mp (of_decide_eq_true hn)
end
end L2.Hx

/-! Lots and arrows that come of a clause, over plain lists. -/
namespace L2.Hx
open PySem PySem.Spec PyProof.Rows
theorem got_end {sp : List Int} {k : Nat} (h : levR sp k = []) : ∀ j, gotR sp (k + j) = gotR sp k ∧ levR sp (k + j) = []
  | 0 => ⟨rfl, h⟩
  | j + 1 => by
    obtain ⟨h1, h2⟩ := got_end h j
    have e : levR sp (k + j + 1) = [] := by
      show (levR sp (k + j)).flatMap (stepR sp) = []
      rw [h2]
      rfl
    refine ⟨?_, e⟩
    show gotR sp (k + j) ++ levR sp (k + j + 1) = _
    rw [e, List.append_nil, h1]
/-- all rows -/
def allR (sp : List Int) : List (List Int) := gotR sp (sp.length + 1)
theorem got_all {sp : List Int} {k : Nat} (h : levR sp k = []) : gotR sp k = allR sp := by
  have h2 : levR sp (sp.length + 1) = [] := lev_end (by omega)
  have a := (got_end h (sp.length + 1)).1
  have b := (got_end h2 k).1
  rw [Nat.add_comm] at a
  exact a.symm.trans b
theorem all_len {sp : List Int} (h : sp.length ≤ 2) : (allR sp).length ≤ 13 := by
  have := got_len h (sp.length + 1) (by omega)
  unfold allR
  omega
abbrev Wp := List (Int × Str × Int)
/-- the arrows of a row put in -/
def layF (word : Str) : Wp → Int → List Int → Option Wp
  | wp, _, [] => some wp
  | wp, a, s :: r => if a = 0 ∨ a ∈ keysA wp then none else layF word (putA wp a (word, s)) s r
theorem putA_fresh {l : Wp} {k : Int} {v : Str × Int} (h : ¬ k ∈ keysA l) : putA l k v = l ++ [(k, v)] := by
  unfold putA
  rw [if_neg h]
def wordP (kind : Str) : Str := if kind = "cell" then "short" else "long"
def btwP (sp : List Int) (one other : Int) : List Int := sp.filter fun s => decide (¬ s ∈ [0, one, other])
def rowsP (kind : Str) (one other : Int) (sp : List Int) : List (List Int) := if kind = "cell" then [[other]] else if one = other then [[]] else (allR (btwP sp one other)).map fun r => r ++ [other]
def putF (kind : Str) (one other : Int) (sp : List Int) (wp : Wp) : List Wp := (rowsP kind one other sp).filterMap (layF (wordP kind) wp one)
def hmv (hm : Hm) (t : Str) : Int := (getA hm t).getD 0
def picF (hm : Hm) (sp : List Int) (pt : List Row) : List Wp := pt.foldl (fun lv r => lv.flatMap (putF r.1 (hmv hm r.2.1) (hmv hm r.2.2) sp)) [[]]
theorem picF_snoc (hm : Hm) (sp : List Int) (pt : List Row) (r : Row) : picF hm sp (pt ++ [r]) = (picF hm sp pt).flatMap (putF r.1 (hmv hm r.2.1) (hmv hm r.2.2) sp) := by
  unfold picF
  rw [List.foldl_append]
  rfl
def BtOk (sp : List Int) (one other : Int) : Prop := one ≠ other → (btwP sp one other).length ≤ 2
theorem rowsP_len {kind : Str} {one other : Int} {sp : List Int} (h : BtOk sp one other) : (rowsP kind one other sp).length ≤ 13 := by
  unfold rowsP
  split
  · exact (by decide : 1 ≤ 13)
  · split
    · exact (by decide : 1 ≤ 13)
    · rename_i ne
      rw [List.length_map]
      exact all_len (h ne)
/-- what holds of arrows put in -/
structure WpOk (n : Nat) (wp : Wp) : Prop where
  nd : (keysA wp).Nodup
  no0 : ¬ (0 : Int) ∈ keysA wp
  len : wp.length ≤ n
  kind : ∀ q ∈ wp, q.2.1 = "short" ∨ q.2.1 = "long"
theorem WpOk.up {n m : Nat} {wp : Wp} (h : WpOk n wp) (l : n ≤ m) : WpOk m wp := ⟨h.nd, h.no0, Nat.le_trans h.len l, h.kind⟩
theorem layF_ok {word : Str} (hw : word = "short" ∨ word = "long") : ∀ {r : List Int} {wp wp' : Wp} {a : Int} {n : Nat}, WpOk n wp → layF word wp a r = some wp' → WpOk (n + r.length) wp'
  | [], wp, wp', a, n, h, e => by
    have e : some wp = some wp' := e
    rw [← Option.some.inj e]
    exact h
  | s :: r, wp, wp', a, n, h, e => by
    unfold layF at e
    split at e
    · cases e
    · rename_i hn
      have n1 : ¬ a ∈ keysA wp := fun z => hn (.inr z)
      have n0 : ¬ a = 0 := fun z => hn (.inl z)
      have h2 : WpOk (n + 1) (putA wp a (word, s)) := by
        rw [putA_fresh n1]
        refine ⟨?_, ?_, ?_, ?_⟩
        · unfold keysA
          rw [List.map_append]
          exact List.nodup_append.mpr ⟨h.nd, by simp, fun x hx y hy z => n1 (by rw [List.mem_singleton.mp hy] at z; have z : x = a := z; rw [← z]; exact hx)⟩
        · unfold keysA
          rw [List.map_append, List.mem_append]
          exact fun z => z.elim h.no0 fun z => n0 (List.mem_singleton.mp z).symm
        · rw [List.length_append, List.length_singleton]
          have := h.len
          omega
        · intro q m
          rcases List.mem_append.mp m with m | m
          · exact h.kind q m
          · rw [List.mem_singleton.mp m]
            exact hw
      have h3 := layF_ok hw h2 e
      rw [List.length_cons, show n + (r.length + 1) = n + 1 + r.length by omega]
      exact h3
theorem wordP_or (kind : Str) : wordP kind = "short" ∨ wordP kind = "long" := by
  unfold wordP
  split
  · exact .inl rfl
  · exact .inr rfl
theorem rowsP_row {kind : Str} {one other : Int} {sp : List Int} (h : BtOk sp one other) : ∀ r ∈ rowsP kind one other sp, r.length ≤ 3 := fun r m => by
  unfold rowsP at m
  split at m
  · rw [List.mem_singleton.mp m]
    exact (by decide : 1 ≤ 3)
  · split at m
    · rw [List.mem_singleton.mp m]
      exact (by decide : 0 ≤ 3)
    · rename_i ne
      have h := h ne
      obtain ⟨z, mz, rfl⟩ := List.mem_map.mp m
      have o := got_ok (sp := btwP sp one other) _ z mz
      have := once_len (T := z) (ks := btwP sp one other) o
      rw [List.length_append, List.length_singleton]
      omega
theorem putF_ok {kind : Str} {one other : Int} {sp : List Int} {n : Nat} {wp : Wp} (h : BtOk sp one other) (ok : WpOk n wp) : ∀ x ∈ putF kind one other sp wp, WpOk (n + 3) x := fun x m => by
  obtain ⟨r, mr, e⟩ := List.mem_filterMap.mp m
  exact (layF_ok (wordP_or kind) ok e).up (by have := rowsP_row h r mr; omega)
theorem putF_len {kind : Str} {one other : Int} {sp : List Int} {wp : Wp} (h : BtOk sp one other) : (putF kind one other sp wp).length ≤ 13 := by
  unfold putF
  exact Nat.le_trans (List.length_filterMap_le _ _) (rowsP_len h)
theorem pic_ok {hm : Hm} {sp : List Int} : ∀ (n : Nat) (pt : List Row), pt.length ≤ n → (∀ r ∈ pt, BtOk sp (hmv hm r.2.1) (hmv hm r.2.2)) → (∀ x ∈ picF hm sp pt, WpOk (3 * n) x) ∧ (picF hm sp pt).length ≤ 13 ^ pt.length := by
  intro n pt
  induction n generalizing pt with
  | zero =>
    intro l _
    have e : pt = [] := List.length_eq_zero_iff.mp (by omega)
    subst e
    refine ⟨fun x m => ?_, Nat.le_refl _⟩
    rw [List.mem_singleton.mp m]
    exact ⟨List.nodup_nil, List.not_mem_nil, Nat.le_refl _, fun q m => absurd m List.not_mem_nil⟩
  | succ n ih =>
    intro l h
    by_cases e : pt = []
    · subst e
      refine ⟨fun x m => ?_, Nat.le_refl _⟩
      rw [List.mem_singleton.mp m]
      exact ⟨List.nodup_nil, List.not_mem_nil, Nat.zero_le _, fun q m => absurd m List.not_mem_nil⟩
    · have es := (List.dropLast_concat_getLast e).symm
      generalize pt.dropLast = p0 at es
      generalize pt.getLast e = r at es
      subst es
      rw [List.length_append, List.length_singleton] at l
      obtain ⟨i1, i2⟩ := ih p0 (by omega) fun q m => h q (List.mem_append_left _ m)
      have hr := h r (List.mem_append_right _ List.mem_cons_self)
      rw [picF_snoc]
      refine ⟨fun x m => ?_, ?_⟩
      · obtain ⟨z, mz, m⟩ := List.mem_flatMap.mp m
        exact (putF_ok hr (i1 z mz) x m).up (by omega)
      · refine Nat.le_trans (flat_len (m := 13) fun x _ => putF_len hr) ?_
        rw [List.length_append, List.length_singleton, Nat.pow_succ, Nat.mul_comm]
        exact Nat.mul_le_mul_right _ i2
theorem bt_ok {sp : List Int} {one other : Int} (l : sp.length ≤ 4) (m0 : 0 ∈ sp) (m1 : one ∈ sp) (m2 : other ∈ sp) (nd : sp.Nodup) : BtOk sp one other := fun ne => by
  obtain ⟨x, x0, mx, hx⟩ : ∃ x, x ≠ 0 ∧ x ∈ sp ∧ (x = one ∨ x = other) := by
    by_cases e : one = 0
    · exact ⟨other, fun z => ne (by rw [e, z]), m2, .inr rfl⟩
    · exact ⟨one, e, m1, .inl rfl⟩
  have hb : ∀ y ∈ btwP sp one other, y ∈ sp ∧ y ≠ 0 ∧ y ≠ x := fun y m => by
    obtain ⟨a, b⟩ := List.mem_filter.mp m
    have b := of_decide_eq_true b
    refine ⟨a, fun z => b (by rw [z]; exact List.mem_cons_self), fun z => b ?_⟩
    rcases hx with e | e
    · rw [z, e]
      simp
    · rw [z, e]
      simp
  have o := once_len (T := 0 :: x :: btwP sp one other) (ks := sp) ⟨List.nodup_cons.mpr ⟨fun m => ?_, List.nodup_cons.mpr ⟨fun m => (hb x m).2.2 rfl, nd.sublist List.filter_sublist⟩⟩, fun y m => ?_⟩
  · rw [List.length_cons, List.length_cons] at o
    omega
  · rcases List.mem_cons.mp m with e | m
    · exact x0 e.symm
    · exact (hb 0 m).2.1 rfl
  · rcases List.mem_cons.mp m with e | m
    · rw [e]
      exact m0
    · rcases List.mem_cons.mp m with e | m
      · rw [e]
        exact mx
      · exact (hb y m).1
end L2.Hx

/-! Cases numbered, over plain lists; nameless lots taken out; what a heap has of a case. -/
namespace L2.Hx
open PySem PySem.Spec PyProof.Rows
structure CaseN (ns : List Str) (c : Cs) : Prop where
  ok : CaseOk ns c
  pos0 : ∀ q ∈ c.2, 0 < q.1
  kind : ∀ q ∈ c.2, q.2.1 = "short" ∨ (q.2.1 = "long" ∧ q.2.2 ≠ q.1)
  up : ∀ l ∈ c.1, l.Pairwise leZ
  reach : ∀ S : Int → Prop, (∀ (i : Nat) l, 0 < i → c.1[i]? = some l → l ≠ [] → S (i : Int)) → (∀ q ∈ c.2, S q.1 → S q.2.2) → ∀ q ∈ c.2, S q.1
theorem ix_at {o : List Int} {s : Int} (h : s ∈ o) : o[(ixO o s).toNat]? = some s := by
  unfold ixO
  rw [Int.toNat_natCast, List.getElem?_eq_getElem (List.idxOf_lt_length_of_mem h)]
  congr 1
  exact List.getElem_idxOf _
theorem ix_inj {o : List Int} {a b : Int} (ha : a ∈ o) (hb : b ∈ o) (h : ixO o a = ixO o b) : a = b := by
  have h1 := ix_at ha
  rw [h, ix_at hb] at h1
  exact (Option.some.inj h1).symm
theorem ix_pos {o : List Int} {s : Int} {t : List Int} (e : o = 0 :: t) (h : s ≠ 0) : 0 < ixO o s := by
  unfold ixO
  rw [e, List.idxOf_cons]
  have : ((0 : Int) == s) = false := by
    rw [beq_eq_false_iff_ne]
    exact fun z => h z.symm
  rw [this]
  simp
theorem ars_mem {ws : Ws} {o : List Int} {q : Ar} : q ∈ arsF ws o ↔ ∃ z ∈ ws, q = (ixO o z.1, z.2.2.1, ixO o z.2.2.2) := by
  unfold arsF
  rw [(List.mergeSort_perm _ _).mem_iff, List.mem_map]
  exact ⟨fun ⟨z, m, e⟩ => ⟨z, m, e.symm⟩, fun ⟨z, m, e⟩ => ⟨z, m, e.symm⟩⟩
/-- what is met is come to -/
theorem order_met {ws : Ws} {bs : List Int} (nd : (keysA ws).Nodup) (S : Int → Prop) (hb : ∀ b ∈ bs, S b) (hs : ∀ q ∈ ws, S q.1 → S q.2.2.2) : ∀ x ∈ orderF ws bs (0 :: bs), x = 0 ∨ S x := fun x m => by
  have go : ∀ {a x : Int}, Rch (keysA ws) (endW ws) a x → S a → S x := fun {a x} h => by
    induction h with
    | here _ => exact id
    | step ha _ ih =>
      intro sa
      obtain ⟨y, e, my⟩ := getA_in ha
      refine ih ?_
      rw [endW_of e]
      exact hs _ my sa
  rcases (mem_orderF bs _).mp m with m | ⟨b, mb, m⟩
  · rcases List.mem_cons.mp m with e | m
    · exact .inl e
    · exact .inr (hb x m)
  · obtain ⟨y, my, rfl⟩ := List.mem_map.mp m
    right
    have ra := (reach_all (ks := keysA ws) (M := endW ws) b [] (fun k m => absurd m List.not_mem_nil)).2.2.2 y my
    have r := ra.resolve_left List.not_mem_nil
    have sy := go r (hb b mb)
    obtain ⟨z, e, mz⟩ := getA_in r.key
    rw [endW_of e]
    exact hs _ mz sy
theorem case_n {ns : List Str} {c : Cs} (nd : ns.Nodup) (nn : ¬ ("nil" : Str) ∈ ns) (ln : ns.length ≤ 8) (h : CaseF ns c) : CaseN ns c := by
  have ok := case_ok nd nn ln h
  obtain ⟨ys, hm, ws, bs, ho, wo, py, up, bg, hc⟩ := h
  unfold numF at hc
  split at hc
  case isFalse => cases hc
  rename_i hall
  have hc := (Option.some.inj hc).symm
  subst hc
  have n0 : ¬ (0 : Int) ∈ bs := fun m => ((bg.mem 0).mp m).1 rfl
  have k0 : ¬ (0 : Int) ∈ keysA ws := fun m => by
    obtain ⟨q, mq, e⟩ := List.mem_map.mp m
    have := wo.pos q mq
    omega
  obtain ⟨t, et⟩ := orderF_pre ws bs (0 :: bs)
  have cl := orderF_closed (ws := ws) (bs := bs) k0
  have mk : ∀ z ∈ ws, z.1 ∈ orderF ws bs (0 :: bs) := fun z m => hall _ (List.mem_map.mpr ⟨z, m, rfl⟩)
  have me : ∀ z ∈ ws, z.2.2.2 ∈ orderF ws bs (0 :: bs) := fun z m => by
    have := cl _ (mk z m) (List.mem_map.mpr ⟨z, m, rfl⟩)
    rw [endW_of (mem_getA wo.nd m)] at this
    exact this
  have met := fun S => order_met (ws := ws) (bs := bs) wo.nd S
  have mb : ∀ b ∈ bs, b ∈ orderF ws bs (0 :: bs) := fun b m => by
    rw [et]
    exact List.mem_append_left _ (List.mem_cons_of_mem _ m)
  have eo : orderF ws bs (0 :: bs) = 0 :: (bs ++ t) := by rw [et]; rfl
  generalize orderF ws bs (0 :: bs) = od at ok mk me met mb eo
  refine ⟨ok, fun q m => ?_, fun q m => ?_, fun l m => ?_, fun S h1 h2 q m => ?_⟩
  · obtain ⟨z, mz, rfl⟩ := ars_mem.mp m
    exact ix_pos eo (fun e => by have := wo.pos z mz; omega)
  · obtain ⟨z, mz, rfl⟩ := ars_mem.mp m
    rcases wo.kind z mz with e | ⟨e, ne⟩
    · exact .inl e
    · exact .inr ⟨e, fun x => ne (ix_inj (me z mz) (mk z mz) x)⟩
  · obtain ⟨s, _, rfl⟩ := List.mem_map.mp m
    exact lotF_up0 up hm s
  · obtain ⟨z, mz, rfl⟩ := ars_mem.mp m
    have z0 : z.1 ≠ 0 := fun e => by have := wo.pos z mz; omega
    refine ((met (fun x => S (ixO od x)) (fun b m => ?_) (fun q mq hq => h2 _ (ars_mem.mpr ⟨q, mq, rfl⟩) hq) z.1 (mk z mz)).resolve_left z0)
    have b0 : b ≠ 0 := fun e => n0 (by rw [← e]; exact m)
    have ip := ix_pos eo b0
    have ia := ix_at (mb b m)
    have e : ixO od b = ((ixO od b).toNat : Int) := by omega
    rw [e]
    refine h1 _ (lotF ys hm b) (by omega) (by rw [List.getElem?_map, ia]; rfl) ((bg.mem b).mp m).2
/-- lots and arrows that are all met make a case -/
theorem numF_some {ys : List Str} {hm : Hm} {ws : Ws} {bs : List Int} (nd : (keysA ws).Nodup) (k0 : ¬ (0 : Int) ∈ keysA ws) (reach : ∀ S : Int → Prop, (∀ s ∈ bs, S s) → (∀ q ∈ ws, S q.1 → S q.2.2.2) → ∀ q ∈ ws, S q.1) : ∃ c, numF ys hm ws bs = some c := by
  obtain ⟨t, et⟩ := orderF_pre ws bs (0 :: bs)
  have cl := orderF_closed (ws := ws) (bs := bs) k0
  refine ⟨_, if_pos fun k m => ?_⟩
  obtain ⟨q, mq, rfl⟩ := List.mem_map.mp m
  refine reach (fun x => x ∈ orderF ws bs (0 :: bs)) (fun s m => by rw [et]; exact List.mem_append_left _ (List.mem_cons_of_mem _ m)) (fun q mq hq => ?_) q mq
  have := cl _ hq (List.mem_map.mpr ⟨q, mq, rfl⟩)
  rw [endW_of (mem_getA nd mq)] at this
  exact this
/-- a case's lots by their places -/
def lotC (c : Cs) (s : Int) : List Str := if 0 ≤ s then (c.1[s.toNat]?).getD [] else []
theorem lotC_at {c : Cs} {i : Nat} {l : List Str} (h : c.1[i]? = some l) : lotC c (i : Int) = l := by
  unfold lotC
  rw [if_pos (by omega), Int.toNat_natCast, h]
  rfl
theorem lotC_out {c : Cs} {s : Int} (h : lotC c s ≠ []) : 0 ≤ s ∧ s < c.1.length ∧ c.1[s.toNat]? = some (lotC c s) := by
  unfold lotC at h ⊢
  by_cases s0 : 0 ≤ s
  · rw [if_pos s0] at h ⊢
    cases e : c.1[s.toNat]? with
    | none =>
      rw [e] at h
      exact absurd rfl h
    | some l =>
      have := (List.getElem?_eq_some_iff.mp e).1
      exact ⟨s0, by omega, rfl⟩
  · rw [if_neg s0] at h
    exact absurd rfl h
structure HomeC (ns : List Str) (c : Cs) (hm : Hm) : Prop where
  get : ∀ t, Trm ns t → getA hm t = some (wSp c t)
  nd : (keysA hm).Nodup
  sub : ∀ t ∈ keysA hm, Trm ns t
section
variable {ns : List Str} {c : Cs} {hm : Hm}
theorem HomeC.ok (h : HomeC ns c hm) (nd : ns.Nodup) (nn : ¬ ("nil" : Str) ∈ ns) : HomeOk ns hm := by
  refine ⟨(List.perm_ext_iff_of_nodup h.nd (List.nodup_cons.mpr ⟨nn, nd⟩)).mpr fun t => ⟨fun m => List.mem_cons.mpr (h.sub t m), fun m => ?_⟩, ?_, fun q m => ?_⟩
  · have := h.get t (List.mem_cons.mp m)
    exact List.mem_map.mpr ⟨_, getA_mem this, rfl⟩
  · rw [h.get "nil" (.inl rfl)]
    rfl
  · have e := mem_getA h.nd (show (q.1, q.2) ∈ hm from m)
    rw [h.get q.1 (h.sub _ (List.mem_map.mpr ⟨q, m, rfl⟩))] at e
    have e2 := Option.some.inj e
    unfold wSp at e2
    omega
theorem HomeC.lot (h : HomeC ns c hm) (N : CaseN ns c) (nd : ns.Nodup) (nn : ¬ ("nil" : Str) ∈ ns) {ys : List Str} (py : ys.Perm (keysA hm)) (up : Up0 ys) : lotF ys hm = lotC c := by
  funext s
  have mem : ∀ z, z ∈ c.1.flatten ↔ z ∈ ns := fun z => N.ok.perm.mem_iff
  have ndf := N.ok.nd nd
  refine lotF_back up (py.nodup_iff.mpr h.nd) ?_ ?_ fun n => ⟨fun ⟨m, nil, g⟩ => ?_, fun m => ?_⟩
  · by_cases e : lotC c s = []
    · rw [e]
      exact .nil
    · exact N.up _ (List.mem_of_getElem? (lotC_out e).2.2)
  · by_cases e : lotC c s = []
    · rw [e]
      exact .nil
    · exact ndf.sublist (List.sublist_flatten_of_mem (List.mem_of_getElem? (lotC_out e).2.2))
  · have tn := (h.sub n (py.mem_iff.mp m))
    rw [h.get n tn] at g
    have e := Option.some.inj g
    obtain ⟨l, e1, m1⟩ := find_at ndf ((mem n).mpr (tn.resolve_left nil))
    unfold wSp spotF at e
    rw [if_neg nil] at e
    rw [← e, lotC_at e1]
    exact m1
  · have ne : lotC c s ≠ [] := fun e => by rw [e] at m; exact absurd m List.not_mem_nil
    obtain ⟨s0, s1, hs⟩ := lotC_out ne
    have mf : n ∈ c.1.flatten := List.mem_flatten.mpr ⟨_, List.mem_of_getElem? hs, m⟩
    have mn := (mem n).mp mf
    have nil : n ≠ "nil" := fun e => nn (by rw [← e]; exact mn)
    have g := h.get n (.inr mn)
    have e := find_uniq ndf hs m
    refine ⟨py.mem_iff.mpr (List.mem_map.mpr ⟨_, getA_mem g, rfl⟩), nil, ?_⟩
    rw [g]
    unfold wSp spotF
    rw [if_neg nil, e]
    congr 1
    omega
end
/-- homes told anew -/
def hmC (ns : List Str) (c : Cs) : Hm := ("nil", 0) :: ns.map fun t => (t, wSp c t)
theorem hmC_ok {ns : List Str} {c : Cs} (nd : ns.Nodup) (nn : ¬ ("nil" : Str) ∈ ns) : HomeC ns c (hmC ns c) := by
  have ek : keysA (hmC ns c) = ("nil" : Str) :: ns := by
    show ("nil" : Str) :: (ns.map fun t => (t, wSp c t)).map Prod.fst = _
    rw [List.map_map]
    congr 1
    exact List.map_id'' (fun _ => rfl) ns
  have ndk : (keysA (hmC ns c)).Nodup := by
    rw [ek]
    exact List.nodup_cons.mpr ⟨nn, nd⟩
  refine ⟨fun t ht => mem_getA ndk ?_, ndk, fun t m => by rw [ek] at m; exact List.mem_cons.mp m⟩
  rcases ht with rfl | m
  · exact List.mem_cons_self
  · exact List.mem_cons_of_mem _ (List.mem_map.mpr ⟨t, m, rfl⟩)
theorem up_ns {ns : List Str} (nn : ¬ ("nil" : Str) ∈ ns) (h : ns.Pairwise leZ) : Up0 ("nil" :: ns) := by
  unfold Up0
  rw [List.filter_cons]
  rw [if_neg (by simp)]
  exact h.sublist List.filter_sublist
/-- the first lots of a case -/
def begC (c : Cs) : List Int := (((((spL (c.1.length - 1)).filter fun s => decide (lotC c s ≠ [])).map fun s => (lotC c s, s)).mergeSort (PySem.W.dataLe false encB)).map Prod.snd)
theorem spL_nodup (n : Nat) : (spL n).Nodup := by
  unfold spL
  rw [List.nodup_iff_pairwise_ne, List.pairwise_map]
  exact (List.nodup_range).imp fun {a b} h e => h (by omega)
theorem mem_spL {n : Nat} {x : Int} : x ∈ spL n ↔ 1 ≤ x ∧ x ≤ n := by
  refine ⟨spL_mem, fun ⟨h1, h2⟩ => ?_⟩
  unfold spL
  exact List.mem_map.mpr ⟨(x - 1).toNat, List.mem_range.mpr (by omega), by omega⟩
theorem begC_ok (c : Cs) : BegL (lotC c) (begC c) := by
  refine begL_of ((spL_nodup _).sublist List.filter_sublist) fun s => ?_
  rw [List.mem_filter, mem_spL, decide_eq_true_eq]
  refine ⟨fun ⟨a, b⟩ => ⟨by omega, b⟩, fun ⟨a, b⟩ => ?_⟩
  obtain ⟨h1, h2, _⟩ := lotC_out b
  exact ⟨by omega, b⟩
end L2.Hx

/-! A case without nameless lots is among the cases of its own clause. -/
namespace L2.Hx
open PySem PySem.Spec PyProof.Rows
theorem idx_inj {l : List Int} (nd : l.Nodup) {i j : Nat} (hi : i < l.length) (hj : j < l.length) (e : l[i] = l[j]) : i = j := by
  have p := List.pairwise_iff_getElem.mp (List.nodup_iff_pairwise_ne.mp nd)
  rcases Nat.lt_trichotomy i j with h | h | h
  · exact absurd e (p i j hi hj h)
  · exact h
  · exact absurd e.symm (p j i hj hi h)
abbrev kA (r : List Str) : List (Int ⊕ List Nat) := PySem.W.keyToksAll (r.map PyData.str)
theorem lex_rows : ∀ (r1 r2 : List Str), r1 ≠ r2 → ∀ X Y X' Y' : List (Int ⊕ List Nat), lexLt itemOrd (kA r1 ++ X) (kA r2 ++ Y) = lexLt itemOrd (kA r1 ++ X') (kA r2 ++ Y')
  | [], [], h, _, _, _, _ => absurd rfl h
  | [], y :: t, _, X, Y, X', Y' => by
    exact (PySem.W.lex_atom (p := Sum.inl 0) (q := Sum.inl 1) (by simp) _ _).trans (PySem.W.lex_atom (by simp) _ _).symm
  | x :: r, [], _, X, Y, X', Y' => by
    exact (PySem.W.lex_atom (p := Sum.inl 1) (q := Sum.inl 0) (by simp) _ _).trans (PySem.W.lex_atom (by simp) _ _).symm
  | x :: r, y :: t, h, X, Y, X', Y' => by
    have e : ∀ (z : Str) (l : List Str) (Z : List (Int ⊕ List Nat)), kA (z :: l) ++ Z = [.inl 1] ++ (.inr z.cps.toList :: (kA l ++ Z)) := fun z l Z => rfl
    rw [e, e, e, e, PySem.W.lex_pre, PySem.W.lex_pre]
    by_cases c : x.cps.toList = y.cps.toList
    · have hr : r ≠ t := fun z => h (by rw [str_ext c, z])
      rw [c]
      have e2 : ∀ Z : List (Int ⊕ List Nat), (Sum.inr y.cps.toList :: Z) = [Sum.inr y.cps.toList] ++ Z := fun Z => rfl
      rw [e2, e2 (kA t ++ Y), e2 (kA r ++ X'), e2 (kA t ++ Y'), PySem.W.lex_pre, PySem.W.lex_pre]
      exact lex_rows r t hr X Y X' Y'
    · have n : (Sum.inr x.cps.toList : Int ⊕ List Nat) ≠ Sum.inr y.cps.toList := fun z => c (Sum.inr.inj z)
      exact (PySem.W.lex_atom n _ _).trans (PySem.W.lex_atom n _ _).symm
/-- rows that differ stand in an order that their spots have no part in -/
theorem le_rows {r1 r2 : List Str} (h : r1 ≠ r2) {s1 s2 : Int} (t1 t2 : Int) (l : PySem.W.dataLe false encB (r1, s1) (r2, s2) = true) : PySem.W.dataLe false encB (r1, t1) (r2, t2) = true := by
  have e : ∀ (r q : List Str) (s t : Int), PySem.W.dataLe false encB (r, s) (q, t) = !lexLt itemOrd (PySem.W.keyToks (encB (q, t))) (PySem.W.keyToks (encB (r, s))) := fun _ _ _ _ => rfl
  have k : ∀ (r : List Str) (s : Int), PySem.W.keyToks (encB (r, s)) = [.inl 1] ++ (kA r ++ [.inl 1, .inl s, .inl 0]) := fun r s => by
    simp [encB, PySem.W.keyToks, PySem.W.keyToksAll]
  rw [e, k, k, PySem.W.lex_pre] at l ⊢
  rw [lex_rows r2 r1 (fun z => h z.symm) _ _ [.inl 1, .inl s2, .inl 0] [.inl 1, .inl s1, .inl 0]]
  exact l
/-- a case that stands in order: its lots rise, its arrows too -/
structure CaseU (c : Cs) : Prop where
  rise : ∀ i j : Nat, 0 < i → i < j → ∀ l m, c.1[i]? = some l → c.1[j]? = some m → l ≠ [] → m ≠ [] → ∃ s t, PySem.W.dataLe false encB (l, s) (m, t) = true
  ars : c.2.Pairwise fun p q => PySem.W.dataLe false arD p q = true
theorem case_u {ns : List Str} {c : Cs} (h : CaseF ns c) (hB : ¬ Bare c) : CaseU c := by
  obtain ⟨ys, hm, ws, bs, ho, wo, py, up, bg, hc⟩ := h
  unfold numF at hc
  split at hc
  case isFalse => cases hc
  have hc := (Option.some.inj hc).symm
  subst hc
  refine ⟨?_, dataLe_srt arD _⟩
  have n0 : ¬ (0 : Int) ∈ bs := fun m => ((bg.mem 0).mp m).1 rfl
  have nd0 : (0 :: bs).Nodup := List.nodup_cons.mpr ⟨n0, bg.nd⟩
  have ndo := orderF_nodup ws bs nd0
  obtain ⟨t, et⟩ := orderF_pre ws bs (0 :: bs)
  have t0 : t = [] := by
    cases ht : t with
    | nil => rfl
    | cons s r =>
      have ms : s ∈ orderF ws bs (0 :: bs) := by rw [et, ht]; exact List.mem_append_right _ List.mem_cons_self
      rw [et, ht] at ndo
      have s1 : ¬ s ∈ 0 :: bs := fun m => (List.nodup_append.mp ndo).2.2 s m s List.mem_cons_self rfl
      have ne : lotF ys hm s ≠ [] := fun e => hB (by
        show ([] : List Str) ∈ ((orderF ws bs (0 :: bs)).map (lotF ys hm)).drop 1
        rw [et, ht, List.cons_append, List.map_cons, List.drop_succ_cons, List.drop_zero, ← e]
        exact List.mem_map.mpr ⟨s, List.mem_append_right _ List.mem_cons_self, rfl⟩)
      exact absurd (List.mem_cons_of_mem _ ((bg.mem s).mpr ⟨fun z => s1 (by rw [z]; exact List.mem_cons_self), ne⟩)) s1
  rw [t0, List.append_nil] at et
  intro i j i0 ij l m hi hj _ _
  have hi : ((orderF ws bs (0 :: bs)).map (lotF ys hm))[i]? = some l := hi
  have hj : ((orderF ws bs (0 :: bs)).map (lotF ys hm))[j]? = some m := hj
  rw [et, List.getElem?_map] at hi hj
  obtain ⟨s, hs, rfl⟩ := Option.map_eq_some_iff.mp hi
  obtain ⟨t, ht, rfl⟩ := Option.map_eq_some_iff.mp hj
  obtain ⟨i, rfl⟩ : ∃ i', i = i' + 1 := ⟨i - 1, by omega⟩
  obtain ⟨j, rfl⟩ : ∃ j', j = j' + 1 := ⟨j - 1, by omega⟩
  rw [List.getElem?_cons_succ] at hs ht
  obtain ⟨li, ei⟩ := List.getElem?_eq_some_iff.mp hs
  obtain ⟨lj, ej⟩ := List.getElem?_eq_some_iff.mp ht
  have p := List.pairwise_iff_getElem.mp bg.srt i j (by rw [List.length_map]; exact li) (by rw [List.length_map]; exact lj) (by omega)
  rw [List.getElem_map, List.getElem_map, ei, ej] at p
  exact ⟨s, t, p⟩
section
variable {ns : List Str} {c : Cs} {hm : Hm}
/-- where a lot stands in a home -/
def renH (c : Cs) (hm : Hm) (i : Int) : Int := (getA hm ((fstC c).getD i.toNat "nil")).getD 0
structure OwnC (ns : List Str) (c : Cs) (hm : Hm) : Prop where
  N : CaseN ns c
  U : CaseU c
  nd : ns.Nodup
  nn : ¬ ("nil" : Str) ∈ ns
  bare : ¬ Bare c
  own : OwnH (wSp c) ("nil" :: ns) hm
theorem trm_mem {t : Str} : TmOk ns t ↔ t ∈ ("nil" : Str) :: ns := List.mem_cons.symm
theorem OwnC.fst (h : OwnC ns c hm) {i : Int} (i0 : 0 ≤ i) (i1 : i < c.1.length) : TmOk ns ((fstC c).getD i.toNat "nil") ∧ wSp c ((fstC c).getD i.toNat "nil") = i := by
  have lf := fst_len h.N.ok.pos
  have e := getD_at (c := c) (i := i.toNat) (by omega)
  refine ⟨fst_term h.N.ok h.bare (List.mem_of_getElem? e), ?_⟩
  rw [(w_first h.N.ok h.nd h.nn h.bare e).1]
  omega
theorem OwnC.get (h : OwnC ns c hm) {t : Str} (ht : TmOk ns t) : getA hm t = some (renH c hm (wSp c t)) := by
  have b := wSp_in h.N.ok h.nd ht
  have f := h.fst b.1 b.2
  have e := (h.own.like t (trm_mem.mp ht) _ (trm_mem.mp f.1)).mpr f.2.symm
  obtain ⟨v, g, _⟩ := getA_in ((h.own.keys t).mpr (trm_mem.mp ht))
  unfold renH
  rw [← e, g]
  rfl
theorem OwnC.inj (h : OwnC ns c hm) {i j : Int} (i0 : 0 ≤ i) (i1 : i < c.1.length) (j0 : 0 ≤ j) (j1 : j < c.1.length) (e : renH c hm i = renH c hm j) : i = j := by
  have fi := h.fst i0 i1
  have fj := h.fst j0 j1
  have gi := h.get fi.1
  have gj := h.get fj.1
  rw [fi.2] at gi
  rw [fj.2, ← e, ← gi] at gj
  have := (h.own.like _ (trm_mem.mp fj.1) _ (trm_mem.mp fi.1)).mp gj
  rw [fi.2, fj.2] at this
  exact this.symm
theorem OwnC.zero (h : OwnC ns c hm) : renH c hm 0 = 0 := by
  have := h.get (t := "nil") (.inl rfl)
  rw [h.own.nil] at this
  exact (Option.some.inj this).symm
theorem head_lot {l : List Str} (h : c.1[0]? = some l) : c.1.headD [] = l := by
  cases e : c.1 with
  | nil => rw [e] at h; cases h
  | cons x r =>
    rw [e] at h
    exact Option.some.inj h
theorem lot_term (ok : CaseOk ns c) {l : List Str} (ml : l ∈ c.1) {n : Str} (mn : n ∈ l) : TmOk ns n := .inr (ok.perm.mem_iff.mp (List.mem_flatten.mpr ⟨l, ml, mn⟩))
theorem lk_terms (ok : CaseOk ns c) (nn : ¬ ("nil" : Str) ∈ ns) (hB : ¬ Bare c) : ∀ r ∈ lkC c, TmOk ns r.2.1 ∧ TmOk ns r.2.2 := fun r m => by
  have nil : TmOk ns "nil" := .inl rfl
  unfold lkC at m
  rcases List.mem_append.mp m with m | m
  · rcases List.mem_append.mp m with m | m
    · rcases List.mem_append.mp m with m | m
      · obtain ⟨n, mn, rfl⟩ := List.mem_map.mp m
        have h0 := List.getElem?_eq_getElem ok.pos
        rw [head_lot h0] at mn
        exact ⟨lot_term ok (List.mem_of_getElem? h0) mn, nil⟩
      · obtain ⟨l, ml, m⟩ := List.mem_flatMap.mp m
        obtain ⟨n, mn, rfl⟩ := List.mem_map.mp m
        have ml2 := List.mem_of_mem_drop ml
        have ne : l ≠ [] := fun e => hB (by rw [e] at ml; exact ml)
        refine ⟨lot_term ok ml2 ?_, lot_term ok ml2 (List.mem_of_mem_drop mn)⟩
        cases l with
        | nil => exact absurd rfl ne
        | cons x r => exact List.mem_cons_self
    · obtain ⟨f, mf, rfl⟩ := List.mem_map.mp m
      exact ⟨fst_term ok hB (List.mem_of_mem_drop mf), nil⟩
  · obtain ⟨i, mi, m⟩ := List.mem_flatMap.mp m
    have il := List.mem_range.mp mi
    unfold lkE at m
    split at m
    · exact absurd m List.not_mem_nil
    · obtain ⟨o, mo, rfl⟩ := List.mem_map.mp m
      exact ⟨fst_term ok hB (List.mem_of_getElem? (getD_at il)), fst_term ok hB (List.mem_of_mem_drop mo)⟩
theorem pt_terms (ok : CaseOk ns c) (hB : ¬ Bare c) : ∀ r ∈ ptC c, TmOk ns r.2.1 ∧ TmOk ns r.2.2 := fun r m => by
  have lf := fst_len ok.pos
  obtain ⟨q, mq, rfl⟩ := List.mem_map.mp m
  have a := ok.ar q mq
  exact ⟨fst_term ok hB (List.mem_of_getElem? (getD_at (by omega))), fst_term ok hB (List.mem_of_getElem? (getD_at (by omega)))⟩
theorem OwnC.looks (h : OwnC ns c hm) : looksF (hmv hm) (lkC c) = true := by
  have a := looks_own h.N.ok h.nd h.nn h.bare
  have tm : ∀ r ∈ lkC c, TmOk ns r.2.1 ∧ TmOk ns r.2.2 := lk_terms h.N.ok h.nn h.bare
  unfold looksF at a ⊢
  rw [List.all_eq_true] at a ⊢
  intro r m
  have b := a r m
  obtain ⟨t1, t2⟩ := tm r m
  have e : ∀ t, TmOk ns t → hmv hm t = renH c hm (wSp c t) := fun t ht => by
    unfold hmv
    rw [h.get ht]
    rfl
  have b1 := wSp_in h.N.ok h.nd t1
  have b2 := wSp_in h.N.ok h.nd t2
  unfold lookF at b ⊢
  rw [e _ t1, e _ t2]
  rw [show (decide (renH c hm (wSp c r.2.1) = renH c hm (wSp c r.2.2))) = decide (wSp c r.2.1 = wSp c r.2.2) from decide_eq_decide.mpr ⟨h.inj b1.1 b1.2 b2.1 b2.2, fun z => by rw [z]⟩]
  exact b
/-- the arrows of a case in a home -/
def ownW (c : Cs) (hm : Hm) (as : List Ar) : Wp := as.map fun q => (renH c hm q.1, q.2.1, renH c hm q.2.2)
theorem OwnC.hmv (h : OwnC ns c hm) {i : Int} (i0 : 0 ≤ i) (i1 : i < c.1.length) : hmv hm ((fstC c).getD i.toNat "nil") = renH c hm i := rfl
theorem OwnC.pic (h : OwnC ns c hm) (sp : List Int) : ∀ (pre rest : List Ar), pre ++ rest = c.2 → ownW c hm pre ∈ picF hm sp (pre.map fun q => (wordK q.2.1, (fstC c).getD q.1.toNat "nil", (fstC c).getD q.2.2.toNat "nil")) := fun pre => by
  induction hn : pre.length generalizing pre with
  | zero =>
    intro rest _
    rw [List.length_eq_zero_iff.mp hn]
    exact List.mem_singleton.mpr rfl
  | succ n ih =>
    intro rest e
    have ne : pre ≠ [] := fun z => by rw [z] at hn; cases hn
    have es := (List.dropLast_concat_getLast ne).symm
    generalize pre.dropLast = p0 at es
    generalize pre.getLast ne = q at es
    subst es
    rw [List.length_append, List.length_singleton] at hn
    have i1 := ih p0 (by omega) (q :: rest) (by rw [← e, List.append_assoc]; rfl)
    rw [List.map_append, List.map_cons, List.map_nil, picF_snoc]
    refine List.mem_flatMap.mpr ⟨_, i1, ?_⟩
    have mq : q ∈ c.2 := by rw [← e]; exact List.mem_append_left _ (List.mem_append_right _ List.mem_cons_self)
    have a := h.N.ok.ar q mq
    have p0' := h.N.pos0 q mq
    have one0 : renH c hm q.1 ≠ 0 := fun z => by
      have := h.inj (i := q.1) (j := 0) a.1 a.2.1 (Int.le_refl 0) (by have := h.N.ok.pos; omega) (by rw [z, h.zero])
      omega
    have fresh : ¬ renH c hm q.1 ∈ keysA (ownW c hm p0) := fun m => by
      obtain ⟨z, mz, ez⟩ := List.mem_map.mp m
      obtain ⟨y, my, rfl⟩ := List.mem_map.mp mz
      have my2 : y ∈ c.2 := by rw [← e, List.append_assoc]; exact List.mem_append_left _ my
      have b := h.N.ok.ar y my2
      have e2 : y.1 = q.1 := h.inj b.1 b.2.1 a.1 a.2.1 ez
      have nd2 := h.N.ok.bnd
      rw [← e, List.append_assoc, List.map_append] at nd2
      exact (List.nodup_append.mp nd2).2.2 _ (List.mem_map.mpr ⟨y, my, rfl⟩) _ (List.mem_map.mpr ⟨q, List.mem_cons_self, rfl⟩) e2
    have lay : ∀ word, layF word (ownW c hm p0) (renH c hm q.1) [renH c hm q.2.2] = some (ownW c hm p0 ++ [(renH c hm q.1, word, renH c hm q.2.2)]) := fun word => by
      unfold layF
      rw [if_neg (fun z => z.elim one0 fresh), putA_fresh fresh]
      rfl
    show ownW c hm (p0 ++ [q]) ∈ putF (wordK q.2.1) (renH c hm q.1) (renH c hm q.2.2) sp (ownW c hm p0)
    have eo : ownW c hm (p0 ++ [q]) = ownW c hm p0 ++ [(renH c hm q.1, q.2.1, renH c hm q.2.2)] := by
      unfold ownW
      rw [List.map_append]
      rfl
    rw [eo]
    refine List.mem_filterMap.mpr ⟨[renH c hm q.2.2], ?_, ?_⟩
    · unfold rowsP
      rcases h.N.kind q mq with k | ⟨k, kn⟩
      · rw [if_pos (show wordK q.2.1 = "cell" by unfold wordK; rw [if_pos k])]
        exact List.mem_singleton.mpr rfl
      · rw [if_neg (show ¬ wordK q.2.1 = "cell" by unfold wordK; rw [k]; decide), if_neg fun z => kn (h.inj a.2.2.2.1 a.2.2.2.2 a.1 a.2.1 z.symm)]
        exact List.mem_map.mpr ⟨[], got_nil _, rfl⟩
    · rw [lay]
      have ew : wordP (wordK q.2.1) = q.2.1 := by
        unfold wordP wordK
        rcases h.N.kind q mq with k | ⟨k, _⟩
        · rw [k]
          decide
        · rw [k]
          decide
      rw [ew]
/-- the lots in the case's order -/
def ownB (c : Cs) (hm : Hm) : List Int := (List.range c.1.length).map fun i : Nat => renH c hm (i : Int)
theorem OwnC.ndB (h : OwnC ns c hm) : (ownB c hm).Nodup := by
  unfold ownB
  rw [List.nodup_iff_pairwise_ne, List.pairwise_map]
  refine (List.nodup_range).imp_of_mem fun {a b} ma mb hne e => hne ?_
  have la := List.mem_range.mp ma
  have lb := List.mem_range.mp mb
  have := h.inj (i := (a : Int)) (j := (b : Int)) (by omega) (by omega) (by omega) (by omega) e
  omega
theorem OwnC.at (h : OwnC ns c hm) {i : Nat} (l : i < c.1.length) : (ownB c hm)[i]? = some (renH c hm (i : Int)) := by
  unfold ownB
  rw [List.getElem?_map, List.getElem?_range l]
  rfl
theorem OwnC.ix (h : OwnC ns c hm) {i : Int} (i0 : 0 ≤ i) (i1 : i < c.1.length) : ixO (ownB c hm) (renH c hm i) = i := by
  have hi := h.at (i := i.toNat) (by omega)
  rw [show ((i.toNat : Nat) : Int) = i by omega] at hi
  have mi := List.mem_of_getElem? hi
  have e1 := List.getElem?_eq_getElem (List.idxOf_lt_length_of_mem mi)
  rw [List.getElem_idxOf] at e1
  have nd := h.ndB
  obtain ⟨l1, q1⟩ := List.getElem?_eq_some_iff.mp hi
  obtain ⟨l2, q2⟩ := List.getElem?_eq_some_iff.mp e1
  have := idx_inj nd l2 l1 (by rw [q1, q2])
  unfold ixO
  omega
theorem OwnC.lot (h : OwnC ns c hm) {ys : List Str} (py : ys.Perm (keysA hm)) (ndh : (keysA hm).Nodup) (up : Up0 ys) {i : Nat} {l : List Str} (hl : c.1[i]? = some l) : lotF ys hm (renH c hm (i : Int)) = l := by
  have il := (List.getElem?_eq_some_iff.mp hl).1
  have ndf := h.N.ok.nd h.nd
  refine lotF_back up (py.nodup_iff.mpr ndh) (h.N.up l (List.mem_of_getElem? hl)) (ndf.sublist (List.sublist_flatten_of_mem (List.mem_of_getElem? hl))) fun n => ⟨fun ⟨m, nil, g⟩ => ?_, fun m => ?_⟩
  · have tn : TmOk ns n := trm_mem.mpr ((h.own.keys n).mp (py.mem_iff.mp m))
    rw [h.get tn] at g
    have b := wSp_in h.N.ok h.nd tn
    have e := h.inj b.1 b.2 (by omega) (by omega) (Option.some.inj g)
    obtain ⟨l2, e1, m1⟩ := find_at ndf (h.N.ok.perm.mem_iff.mpr (tn.resolve_left nil))
    have e2 := w_name h.N.ok h.nd h.nn e1 m1
    rw [e] at e2
    have e3 : i = c.1.findIdx fun l => decide (n ∈ l) := by omega
    rw [e3, e1] at hl
    rw [← Option.some.inj hl]
    exact m1
  · have mn : n ∈ ns := h.N.ok.perm.mem_iff.mp (List.mem_flatten.mpr ⟨l, List.mem_of_getElem? hl, m⟩)
    refine ⟨py.mem_iff.mpr ((h.own.keys n).mpr (List.mem_cons_of_mem _ mn)), fun z => h.nn (by rw [← z]; exact mn), ?_⟩
    rw [h.get (.inr mn), w_name h.N.ok h.nd h.nn hl m]
/-- numbered, they are the case -/
theorem OwnC.num (h : OwnC ns c hm) {ys : List Str} {ws : Ws} {bs : List Int} (py : ys.Perm (keysA hm)) (ndh : (keysA hm).Nodup) (srt : sortedS ys = true) (bg : Begins ys hm bs) (ew : ws.map (fun q => (q.1, q.2.2)) = ownW c hm c.2) : numF ys hm ws bs = some c := by
  have up := up_of srt
  have pos := h.N.ok.pos
  have ne : ∀ (i : Nat) l, 0 < i → c.1[i]? = some l → l ≠ [] := fun i l i0 hl e => h.bare (by
    have h2 : (c.1.drop 1)[i - 1]? = some l := by
      rw [List.getElem?_drop, show 1 + (i - 1) = i by omega]
      exact hl
    show ([] : List Str) ∈ c.1.drop 1
    rw [← e]
    exact List.mem_of_getElem? h2)
  have eB : ownB c hm = 0 :: (ownB c hm).drop 1 := by
    have h0 := h.at pos
    rw [show ((0 : Nat) : Int) = 0 from rfl, h.zero] at h0
    cases q : ownB c hm with
    | nil => rw [q] at h0; cases h0
    | cons x r =>
      rw [q] at h0
      rw [Option.some.inj h0]
      rfl
  have ndB := h.ndB
  have memB : ∀ x, x ∈ ownB c hm ↔ ∃ i : Nat, i < c.1.length ∧ x = renH c hm (i : Int) := fun x => by
    unfold ownB
    rw [List.mem_map]
    exact ⟨fun ⟨i, m, e⟩ => ⟨i, List.mem_range.mp m, e.symm⟩, fun ⟨i, m, e⟩ => ⟨i, List.mem_range.mpr m, e.symm⟩⟩
  have atD : ∀ j x, ((ownB c hm).drop 1)[j]? = some x → j + 1 < c.1.length ∧ x = renH c hm ((j + 1 : Nat) : Int) := fun j x e => by
    rw [List.getElem?_drop, Nat.add_comm] at e
    have l := (List.getElem?_eq_some_iff.mp e).1
    have l2 : (ownB c hm).length = c.1.length := by unfold ownB; rw [List.length_map, List.length_range]
    rw [l2] at l
    rw [h.at l] at e
    exact ⟨l, (Option.some.inj e).symm⟩
  have BL : BegL (lotF ys hm) ((ownB c hm).drop 1) := by
    refine ⟨ndB.sublist (List.drop_sublist _ _), fun s => ⟨fun m => ?_, fun ⟨s0, sn⟩ => ?_⟩, ?_⟩
    · obtain ⟨j, hj⟩ := List.mem_iff_getElem?.mp m
      obtain ⟨lj, rfl⟩ := atD j s hj
      have hl := List.getElem?_eq_getElem lj
      refine ⟨fun z => ?_, ?_⟩
      · have := h.inj (i := ((j + 1 : Nat) : Int)) (j := 0) (by omega) (by omega) (Int.le_refl 0) (by omega) (by rw [z, h.zero])
        omega
      · rw [h.lot py ndh up hl]
        exact ne _ _ (Nat.succ_pos j) hl
    · obtain ⟨n, r, e⟩ := List.exists_cons_of_ne_nil sn
      have mn : n ∈ lotF ys hm s := by rw [e]; exact List.mem_cons_self
      obtain ⟨m1, m2, m3⟩ := mem_lotF.mp mn
      have tn : TmOk ns n := trm_mem.mpr ((h.own.keys n).mp (py.mem_iff.mp m1))
      rw [h.get tn] at m3
      have b := wSp_in h.N.ok h.nd tn
      have ms : s ∈ ownB c hm := (memB s).mpr ⟨(wSp c n).toNat, by omega, by rw [show (((wSp c n).toNat : Nat) : Int) = wSp c n by omega]; exact (Option.some.inj m3).symm⟩
      rw [eB] at ms
      exact (List.mem_cons.mp ms).resolve_left s0
    · rw [List.pairwise_iff_getElem]
      intro i j li lj ij
      rw [List.length_map] at li lj
      rw [List.getElem_map, List.getElem_map]
      obtain ⟨l1, e1⟩ := atD i _ (List.getElem?_eq_getElem li)
      obtain ⟨l2, e2⟩ := atD j _ (List.getElem?_eq_getElem lj)
      rw [e1, e2]
      have h1 := List.getElem?_eq_getElem l1
      have h2 := List.getElem?_eq_getElem l2
      rw [h.lot py ndh up h1, h.lot py ndh up h2]
      have n1 := ne _ _ (Nat.succ_pos i) h1
      have n2 := ne _ _ (Nat.succ_pos j) h2
      obtain ⟨s, t, le⟩ := h.U.rise (i + 1) (j + 1) (Nat.succ_pos i) (by omega) _ _ h1 h2 n1 n2
      refine le_rows (fun e => ?_) _ _ le
      obtain ⟨n, r, en⟩ := List.exists_cons_of_ne_nil n1
      have m1 : n ∈ c.1[i + 1] := by rw [en]; exact List.mem_cons_self
      have a := w_name h.N.ok h.nd h.nn h1 m1
      have b := w_name h.N.ok h.nd h.nn h2 (by rw [← e]; exact m1)
      omega
  have eb : bs = (ownB c hm).drop 1 := BegL.uniq bg.L BL
  have eo0 : 0 :: bs = ownB c hm := by rw [eb]; exact eB.symm
  have arW : ∀ q ∈ ws, ∃ z ∈ c.2, q.1 = renH c hm z.1 ∧ q.2.2 = (z.2.1, renH c hm z.2.2) := fun q m => by
    have m2 : (q.1, q.2.2) ∈ ownW c hm c.2 := by rw [← ew]; exact List.mem_map.mpr ⟨q, m, rfl⟩
    obtain ⟨z, mz, e⟩ := List.mem_map.mp m2
    obtain ⟨e1, e2⟩ := Prod.mk.inj e
    exact ⟨z, mz, e1.symm, e2.symm⟩
  have inB : ∀ i : Int, 0 ≤ i → i < c.1.length → renH c hm i ∈ ownB c hm := fun i i0 i1 => (memB _).mpr ⟨i.toNat, by omega, by rw [show ((i.toNat : Nat) : Int) = i by omega]⟩
  have ord : orderF ws bs (0 :: bs) = ownB c hm := by
    obtain ⟨t, et⟩ := orderF_pre ws bs (0 :: bs)
    have sub := orderF_sub (ws := ws) (bs := bs) (o := 0 :: bs) (S := ownB c hm) (fun x m => by rw [← eo0]; exact m) fun k mk => by
      obtain ⟨y, e, my⟩ := getA_in mk
      obtain ⟨z, mz, _, e2⟩ := arW _ my
      have a := h.N.ok.ar z mz
      rw [endW_of e]
      have e3 : y.2 = (z.2.1, renH c hm z.2.2) := e2
      rw [e3]
      exact inB _ a.2.2.2.1 a.2.2.2.2
    have nd := orderF_nodup ws bs (o := 0 :: bs) (by rw [eo0]; exact ndB)
    have t0 : t = [] := by
      cases q : t with
      | nil => rfl
      | cons x r =>
        rw [et, q] at nd sub
        have m1 := sub x (List.mem_append_right _ List.mem_cons_self)
        rw [← eo0] at m1
        exact absurd rfl ((List.nodup_append.mp nd).2.2 x m1 x List.mem_cons_self)
    rw [et, t0, List.append_nil, eo0]
  unfold numF
  rw [ord, if_pos (fun k mk => by
    obtain ⟨q, mq, e⟩ := List.mem_map.mp mk
    obtain ⟨z, mz, e1, _⟩ := arW q mq
    have a := h.N.ok.ar z mz
    rw [← e, e1]
    exact inB _ a.1 a.2.1)]
  have el : (ownB c hm).map (lotF ys hm) = c.1 := by
    refine List.ext_getElem? fun i => ?_
    rw [List.getElem?_map]
    by_cases l : i < c.1.length
    · rw [h.at l, List.getElem?_eq_getElem l]
      show some (lotF ys hm (renH c hm (i : Int))) = _
      rw [h.lot py ndh up (List.getElem?_eq_getElem l)]
    · have l2 : (ownB c hm).length = c.1.length := by unfold ownB; rw [List.length_map, List.length_range]
      rw [List.getElem?_eq_none (by omega), List.getElem?_eq_none (by omega)]
      rfl
  have ea : arsF ws (ownB c hm) = c.2 := by
    unfold arsF
    have e1 : (ws.map fun q => (ixO (ownB c hm) q.1, q.2.2.1, ixO (ownB c hm) q.2.2.2)) = c.2 := by
      have e2 : (ws.map fun q => (ixO (ownB c hm) q.1, q.2.2.1, ixO (ownB c hm) q.2.2.2)) = (ws.map fun q => (q.1, q.2.2)).map fun z : Ar => (ixO (ownB c hm) z.1, z.2.1, ixO (ownB c hm) z.2.2) := by
        rw [List.map_map]
        rfl
      rw [e2, ew]
      unfold ownW
      rw [List.map_map]
      conv => rhs; rw [← List.map_id c.2]
      refine List.map_congr_left fun q m => ?_
      have a := h.N.ok.ar q m
      show (ixO (ownB c hm) (renH c hm q.1), q.2.1, ixO (ownB c hm) (renH c hm q.2.2)) = q
      rw [h.ix a.1 a.2.1, h.ix a.2.2.2.1 a.2.2.2.2]
    rw [e1]
    exact srt_uniq (fun a _ b _ q => arD_inj q) (dataLe_srt arD _) h.U.ars (List.mergeSort_perm _ _)
  rw [el, ea]
end
end L2.Hx

/-! Sets of texts: what one is, a text put in, its texts in order. -/
namespace L2.Hx
open PySem PySem.Spec PyProof.Rows

def zKey (e : Int × Value) : Str := match e.2 with
  | .str x _ => x
  | _ => Str.empty
def ZGood (w : World) (e : Int × Value) : Prop := ∃ x t, e = (hashStr w x, Value.str x t)
/-- the entries and the table of a set whose members are those of S, n in number -/
structure ZTab (w : World) (es : Array (Int × Value)) (t : SetTable) (S : Str → Bool) (n : Nat) : Prop where
  good : ∀ e ∈ es.toList, ZGood w e
  once : (es.toList.map zKey).Nodup
  mem : ∀ x, S x = true ↔ x ∈ es.toList.map zKey
  few : es.size < scanBound
  fits : t.fits es.size = true
  num : es.size = n
  ris : Ris t.place.toList
  led : w.params.followText "set-order" = true ∨ t.led = true
def SetZ (w : World) (h : Heap) (a : Addr) (S : Str → Bool) (n : Nat) : Prop := ∃ o es ep t, h.get? a = some o ∧ o.ExactSet ∧ o.data = .set es ep t ∧ ZTab w es t S n
section
variable {P : Program} {w : World} {es es' : Array (Int × Value)} {t t' : SetTable} {S : Str → Bool} {n : Nat}
theorem ZTab.elems (Z : ZTab w es t S n) : ElemsOf (PySem.strKind P w) es.toList := fun e he => by
  obtain ⟨x, u, rfl⟩ := Z.good e he
  exact ⟨⟨x, strKind_is P w x u, rfl⟩, rfl⟩
theorem ZTab.isKey (Z : ZTab w es t S n) {e : Int × Value} (he : e ∈ es.toList) (x : Str) : (PySem.strKind P w).is x e.2 = true ↔ zKey e = x := by
  obtain ⟨y, u, rfl⟩ := Z.good e he
  refine ⟨fun q => ?_, fun q => ?_⟩
  · have q1 : Value.isStrOf x (Value.str y u) = true := q
    obtain ⟨v, ev⟩ := Value.isStrOf_shape q1
    cases ev
    rfl
  · have q2 : y = x := q
    rw [← q2]
    exact strKind_is P w y u
theorem ZTab.relay (Z : ZTab w es t S n) (m : Nat) : ZTab w (relayAll t es m).1 (relayAll t es m).2.1 S n := by
  have pm := relayAll_perm t es m
  have sz : (relayAll t es m).1.size = es.size := by rw [← Array.length_toList, pm.length_eq, Array.length_toList]
  exact ⟨fun e he => Z.good e (pm.mem_iff.mp he), (pm.map zKey).nodup_iff.mpr Z.once, fun x => (Z.mem x).trans (pm.map zKey).mem_iff.symm, by rw [sz]; exact Z.few, relayAll_fits t es m, by rw [sz]; exact Z.num, relayAll_ris t es m,
    Z.led.imp id fun q => by rw [relayAll_led]; exact q⟩
theorem ZTab.lay (Z : ZTab w es t S n) {x : Str} {u : Tok} (hx : S x = false) (room : n + 1 < scanBound) : ZTab w (layNew t es (hashStr w x) (.str x u)).1 (layNew t es (hashStr w x) (.str x u)).2.1 (fun y => S y || decide (y = x)) (n + 1) := by
  have pm := layNew_perm t es (hashStr w x) (.str x u)
  rw [Array.toList_push] at pm
  have pc := pm.trans (List.perm_append_singleton _ _)
  have pk := pc.map zKey
  have sz : (layNew t es (hashStr w x) (.str x u)).1.size = n + 1 := by rw [← Array.length_toList, pc.length_eq, List.length_cons, Array.length_toList, Z.num]
  have nx : x ∉ es.toList.map zKey := fun q => by
    rw [(Z.mem x).mpr q] at hx
    cases hx
  refine ⟨fun e he => ?_, pk.nodup_iff.mpr (List.nodup_cons.mpr ⟨nx, Z.once⟩), fun y => ?_, by rw [sz]; exact room, layNew_fits t es _ _, sz, layNew_ris t es _ _ Z.ris, Z.led.imp id fun q => by rw [layNew_led]; exact q⟩
  · rcases List.mem_cons.mp (pc.mem_iff.mp he) with q | q
    · exact ⟨x, u, q⟩
    · exact Z.good e q
  · rw [Bool.or_eq_true, decide_eq_true_eq, Z.mem y, pk.mem_iff]
    exact Or.comm.trans List.mem_cons.symm
theorem ZTab.same (Z : ZTab w es t S n) {x : Str} (hx : S x = true) : ZTab w es t (fun y => S y || decide (y = x)) n :=
  ⟨Z.good, Z.once, fun y => by
    rw [Bool.or_eq_true, decide_eq_true_eq]
    exact ⟨fun q => q.elim (Z.mem y).mp fun q => (Z.mem y).mp (by rw [q]; exact hx), fun q => .inl ((Z.mem y).mpr q)⟩, Z.few, Z.fits, Z.num, Z.ris, Z.led⟩
end
section
variable {P : Program} {w : World} {A : Around} {E : Value → Shared → Prop} {s : Shared} {h h' : Heap} {a : Addr} {S : Str → Bool} {n : Nat}
theorem SetZ.keep (R : SetZ w h a S n) (k : ∀ o, h.get? a = some o → h'.get? a = some o) : SetZ w h' a S n := by
  obtain ⟨o, es, ep, t, ho, r⟩ := R
  exact ⟨o, es, ep, t, k o ho, r⟩
theorem SetZ.setOf (R : SetZ w h a S n) : h.SetOf (PySem.strKind P w) a S n := by
  obtain ⟨o, es, ep, t, ho, hx, hd, Z⟩ := R
  refine ⟨o, es, ep, t, ho, hx, hd, Z.elems, fun k => (Z.mem k).trans ?_, Z.few, Z.fits, Z.num⟩
  rw [List.mem_map]
  exact ⟨fun ⟨e, he, q⟩ => ⟨e, he, (Z.isKey he k).mpr q⟩, fun ⟨e, he, q⟩ => ⟨e, he, (Z.isKey he k).mp q⟩⟩
/-- the new entries stored, and laid anew where the table is too full -/
theorem z_stored {α : Type} {g : Bool → Sem Unit} {c : Bool} {x : α} (hg : ∀ (b : Bool) (s1 : Shared) (Q' : Unit → Shared → Prop), Q' () s1 → wpAny (model P w) A (g b) Q' E s1) {o : Obj} {es : Array (Int × Value)} {ep : Nat} {t : SetTable}
    (ho : s.heap.get? a = some o) (hx : o.ExactSet) (hd : o.data = .set es ep t) {es1 : Array (Int × Value)} {t1 : SetTable} (Z : ZTab w es1 t1 S n) {R : α → Shared → Prop}
    (k : ∀ h', Heap.SameBut a s.heap h' → SetZ w h' a S n → R x { s with heap := h' }) :
    wpAny (model P w) A (do
        storeSet a es1 t1
        if c = true then do
            g (relayAll t1 es1 (SetTable.grown es1.size)).2.2
            storeSet a (relayAll t1 es1 (SetTable.grown es1.size)).1 (relayAll t1 es1 (SetTable.grown es1.size)).2.1
            pure x
          else pure x) R E s := by
  refine wpAny_bind (wpAny_storeSet_of ho hd ?_ (fits_of_scanBound Z.few))
  have ho1 := store_at (es' := es1) (t' := t1) ho hd
  have sb1 := Heap.SameBut.update s.heap a (Obj.putSet es1 t1)
  cases c with
  | false => exact wpAny_pure (k _ sb1 ⟨_, es1, _, t1, ho1, hx, rfl, Z⟩)
  | true =>
    have Z2 := Z.relay (SetTable.grown es1.size)
    refine wpAny_bind (hg _ _ _ (wpAny_bind (wpAny_storeSet_of ho1 rfl ?_ (fits_of_scanBound Z2.few))))
    exact wpAny_pure (k _ (sb1.trans (Heap.SameBut.update _ a _)) ⟨_, _, _, _, store_at ho1 rfl, hx, rfl, Z2⟩)
theorem z_add_at {x : Str} {u : Tok} {Q : Bool → Shared → Prop} (R : SetZ w s.heap a S n) (room : n + 1 < scanBound)
    (k : ∀ h', Heap.SameBut a s.heap h' → SetZ w h' a (fun y => S y || decide (y = x)) (if S x = true then n else n + 1) → Q (!S x) { s with heap := h' }) : wpAny (model P w) A (setAddHashed a (.str x u) ((PySem.strKind P w).hash x)) Q E s := by
  obtain ⟨o, es, ep, t, ho, hx, hd, Z⟩ := R
  unfold setAddHashed setAddHashedIn
  refine wpAny_holding (wpAny_bind (wpAny_setState_of ho hd Z.fits ?_))
  dsimp only
  rw [byScan_of (x := Value.str x u) rfl Z.few (Z.elems (P := P))]
  simp only [↓reduceIte]
  unfold setAddByScan
  refine wpAny_bind (wpAny_bind (wpAny_rule (wpAny_bind (wpAny_setScan_of (strKind_is P w x u) ho hd Z.fits (Z.elems (P := P)) ?_))))
  cases hf : List.findIdx? (fun e => (PySem.strKind P w).is x e.2) es.toList with
  | some j =>
    dsimp only
    obtain ⟨hj, pj, _⟩ := List.findIdx?_eq_some_iff_getElem.mp hf
    have hS : S x = true := (Z.mem x).mpr (List.mem_map.mpr ⟨_, List.getElem_mem hj, (Z.isKey (P := P) (List.getElem_mem hj) x).mp pj⟩)
    have q := k s.heap (Heap.SameBut.refl a s.heap) ⟨o, es, ep, t, ho, hx, hd, by rw [if_pos hS]; exact Z.same hS⟩
    rw [hS] at q
    exact wpAny_pure (wpAny_pure q)
  | none =>
    dsimp only
    have hS : S x = false := by
      cases q : S x with
      | false => rfl
      | true =>
        obtain ⟨e, he, ke⟩ := List.mem_map.mp ((Z.mem x).mp q)
        have c := List.findIdx?_eq_none_iff.mp hf e he
        rw [(Z.isKey (P := P) he x).mpr ke] at c
        cases c
    have way : ∀ (b : Bool) (s1 : Shared) (Q' : Unit → Shared → Prop), Q' () s1 → wpAny (model P w) A (match b with | true => rule "set.scan.the-table-gave-way" | false => pure ()) Q' E s1 := fun b s1 Q' q => by
      cases b
      · exact wpAny_pure q
      · exact wpAny_rule q
    have Z1 := Z.lay (u := u) hS room
    have fin : ∀ h', Heap.SameBut a s.heap h' → SetZ w h' a (fun y => S y || decide (y = x)) (n + 1) → Q true { s with heap := h' } := fun h' sb r => by
      have q := k h' sb
      rw [hS] at q
      exact q r
    have e0 : (PySem.strKind P w).hash x = hashStr w x := rfl
    rw [e0]
    generalize layNew t es (hashStr w x) (.str x u) = T at Z1 ⊢
    obtain ⟨es1, t1, dummy, gave⟩ := T
    dsimp only at Z1 ⊢
    refine wpAny_bind (way _ _ _ ?_)
    split
    · refine wpAny_bind ?_
      rw [hashByValue_scannable (x := Value.str x u) 8 rfl]
      refine wpAny_pure ?_
      have Z2 : ZTab w es1 (if plainKind (Value.str x u) = true then t1 else { t1 with plain := false }) (fun y => S y || decide (y = x)) (n + 1) := by
        split
        · exact Z1
        · exact ⟨Z1.good, Z1.once, Z1.mem, Z1.few, SetTable.fits_plain_off Z1.fits, Z1.num, Z1.ris, Z1.led⟩
      refine z_stored ?_ ho hx hd Z2 fun h' sb r => ?_
      · intro b s1 Q' q
        cases b
        · exact wpAny_pure q
        · exact wpAny_rule q
      · dsimp only
        exact wpAny_pure (fin h' sb r)
    · refine wpAny_bind (wpAny_pure ?_)
      simp only [↓reduceIte]
      refine z_stored ?_ ho hx hd Z1 fun h' sb r => ?_
      · intro b s1 Q' q
        cases b
        · exact wpAny_pure q
        · exact wpAny_rule q
      · dsimp only
        exact wpAny_pure (fin h' sb r)
end
end L2.Hx
namespace L2.Hx
open PySem PySem.Spec PyProof.Rows
/-- what a set is when it is made -/
abbrev emptyZ (w : World) : Obj := { cls := .type "set", dict := none, data := .set #[] 0 (.fresh 0 0 (!w.params.followText "set-order")) }
theorem z_none (w : World) : ZTab w #[] (.fresh 0 0 (!w.params.followText "set-order")) (fun _ => false) 0 :=
  ⟨fun e he => absurd he (by simp), by simp, fun x => by simp, by decide, rfl, rfl, List.Pairwise.nil, by
    show _ ∨ (!w.params.followText "set-order") = true
    cases w.params.followText "set-order"
    · exact .inr rfl
    · exact .inl rfl⟩
theorem SetZ.new {w : World} {h : Heap} {a : Addr} (e : h.get? a = some (emptyZ w)) : SetZ w h a (fun _ => false) 0 := ⟨_, _, _, _, e, ⟨rfl, rfl, rfl⟩, rfl, z_none w⟩
theorem SetZ.congr {w : World} {h : Heap} {a : Addr} {S S' : Str → Bool} {n : Nat} (R : SetZ w h a S n) (e : ∀ x, S' x = S x) : SetZ w h a S' n := by
  have q : S' = S := funext e
  rw [q]
  exact R
section
variable {P : Program} {w : World} {A : Around} {E : Value → Shared → Prop} {s : Shared} {a : Addr} {S : Str → Bool} {n : Nat}
/-- set.add of a text -/
theorem z_add {x : Str} {u : Tok} {Q : Value → Shared → Prop} (R : SetZ w s.heap a S n) (room : n + 1 < scanBound)
    (k : ∀ h', Heap.SameBut a s.heap h' → SetZ w h' a (fun y => S y || decide (y = x)) (if S x = true then n else n + 1) → Q .none { s with heap := h', toks := s.toks + 1 }) : wpAny (model P w) A (call (.builtin "set.add") [.ref a, .str x u]) Q E s := by
  have so : s.heap.SetOf (PySem.strKind P w) a S n := R.setOf
  refine wpAny_call_entry F.slot_set_add so.typeIs F.entry_set_add ?_ (F.args_set_add_2 _ _)
  unfold Builtin.«set.add» Builtin.Frozenset.oneOther
  simp only [List.isEmpty_nil, bind_assoc]
  unfold Builtin.Frozenset.addrOf setAdd
  refine wpAny_bind (wpAny_pure ?_)
  try dsimp only
  refine wpAny_bind (wpAny_pure ?_)
  try dsimp only
  refine wpAny_bind (wpAny_holding (wpAny_bind ((PySem.strKind P w).pyHash (strKind_is P w x u) ?_)))
  refine z_add_at (s := { s with toks := s.toks + 1 }) R room fun h' sb r => ?_
  show wpAny _ _ (ret Value.none) _ _ _
  exact wpAny_pure ⟨_, rfl, k h' sb r⟩
/-- sorted(a set of texts) -/
theorem z_sorted {Q : Value → Shared → Prop} (R : SetZ w s.heap a S n) (calm : A.handled = none)
    (k : ∀ s' p (out : Array Value) (c : Nat) (xs : List Str), (∀ b o, s.heap.get? b = some o → s'.heap.get? b = some o) → s'.gens = s.gens → s'.os = s.os → s.heap.objs.size ≤ p →
      s'.heap.get? p = some (seqObj "list" out c) → StrsAre out.toList xs → sortedS xs = true → xs.Nodup → (∀ x, x ∈ xs ↔ S x = true) → xs.length = n → Q (.ref p) s') :
    wpAny (model P w) A (call (.builtin "sorted") [.ref a]) Q E s := by
  obtain ⟨o, es, ep, t, ho, hx, hd, Z⟩ := R
  refine Calls.call_function_entry kind_sorted plain_sorted entry_sorted (args_sorted1 _) ?_
  unfold Builtin.«sorted»
  refine wpAny_bind (m := checkCount "sorted" 1 1 _) (wpAny_pure (wpAny_bind (collect_set (A := A.in1) calm ⟨o, ho, hx.1, hd⟩ Z.fits Z.few Z.ris Z.led fun s1 vs k1 z1 g1 o1 pm => ?_)))
  have lv : vs.length = n := by rw [pm.length_eq, List.length_map, Array.length_toList]; exact Z.num
  have lz : vs.length ≤ sizeLine := by
    rw [lv, ← Z.num]
    exact fits_of_scanBound Z.few
  have each : ∀ v ∈ vs, ∃ x t, v = Value.str x t := fun v hv => by
    obtain ⟨e, he, q⟩ := List.mem_map.mp (pm.mem_iff.mp hv)
    obtain ⟨x, u, ee⟩ := Z.good e he
    exact ⟨x, u, by rw [← q, ee]⟩
  have are : StrsAre vs (vs.map strOf) := strsAre_map vs each
  have pk : (vs.map strOf).Perm (es.toList.map zKey) := by
    have q := pm.map strOf
    rw [List.map_map] at q
    refine q.trans (List.Perm.of_eq (List.map_congr_left fun e he => ?_))
    obtain ⟨x, u, ee⟩ := Z.good e he
    rw [ee]
    rfl
  refine wpAny_bind (wpAny_newList ?_ lz)
  have hoL : (s1.heap.push (seqObj "list" vs.toArray 0)).get? s1.heap.objs.size = some (seqObj "list" vs.toArray 0) := Heap.get?_push_size _ rfl
  refine wpAny_bind (wpAny_holding (wpAny_call_entry slot_list_sort ⟨_, hoL, rfl⟩ entry_list_sort (list_sort_treeKAny strKind_oneLt hoL are.keysOf (fun v1 v2 rest e => keyKind_strs (by rw [← e]; exact are)) lz fun st' hp hs => ⟨_, rfl, ?_⟩) (args_list_sort _)))
  obtain ⟨xs, a1, a2, a3⟩ := sorted_out_str are hp hs
  obtain ⟨c, hc⟩ := sortedHeap_at (vs := vs) (out := (arrOf st').map (·.2)) hoL
  have pn := a2.trans pk
  refine wpAny_pure ⟨_, rfl, k _ s1.heap.objs.size _ c xs (fun b u e => ?_) g1 o1 z1 hc a1 a3 (pn.nodup_iff.mpr Z.once) (fun x => by rw [pn.mem_iff, ← Z.mem x]) ?_⟩
  · have q := k1 b u e
    have lt := Heap.lt_size q
    show (sortedHeap (s1.heap.push (seqObj "list" vs.toArray 0)) s1.heap.objs.size vs _).get? b = some u
    rw [sortedHeap_old (Nat.ne_of_lt lt) (by rw [size_push']; exact Nat.lt_succ_of_lt lt)]
    exact Heap.get?_push_of_some _ q
  · rw [pn.length_eq, List.length_map, Array.length_toList]
    exact Z.num
end
/-- the set as a tracked thing -/
def SetZO (w : World) (a : Addr) (S : Str → Bool) (n : Nat) : HO := .ext fun h => SetZ w h a S n
theorem setZO_ok {w : World} {P : Program} {H : Hp} {h : Heap} {a : Addr} {S : Str → Bool} {n : Nat} (R : SetZ w h a S n) : ObjOk P w H h a (SetZO w a S n) := by
  have ⟨o, _, _, _, ho, _⟩ := R
  exact ⟨R, ⟨o, ho⟩, fun h1 h2 p k => SetZ.keep p k⟩
section
variable {X : Cx} {pins : List (Addr × Obj)} {σ : St} {H : Hp} {s : Shared}
theorem setZO_get {a : Addr} {S : Str → Bool} {n : Nat} (I : Inv X pins σ H s) (ha : H a = some (SetZO X.w a S n)) : SetZ X.w s.heap a S n := (I.hok a _ ha).1
theorem addZ {E : Value → Shared → Prop} {D : Addr} {S : Str → Bool} {n : Nat} {x : Str} {u : Tok} {Q : Value → Shared → Prop} (I : Inv X pins σ H s) (hD : H D = some (SetZO X.w D S n)) (room : n + 1 < scanBound)
    (h : ∀ s', Inv X pins σ (upd H D (SetZO X.w D (fun y => S y || decide (y = x)) (if S x = true then n else n + 1))) s' → Q .none s') : wpAny (model X.prog X.w) X.A (call (.builtin "set.add") [.ref D, .str x u]) Q E s := by
  refine z_add (setZO_get I hD) room fun h' sb new => ?_
  have he : ∃ o, h'.get? D = some o := by
    obtain ⟨o, _, _, _, ho, _⟩ := id new
    exact ⟨o, ho⟩
  exact h _ (I.write (e := D) (t' := s.toks + 1) (by rw [hD]; trivial) (.inl rfl) (fun b o hb ho => (sb.2 b hb).trans ho) he (setZO_ok new))
end
/-- sorted(z), z a set of texts -/
def rSortZ (w : World) : List V → Hp → VK → Prop := fun vs H Q => ∃ (a : Addr) (S : Str → Bool) (n : Nat), vs = [V.ref a] ∧ H a = some (SetZO w a S n) ∧ n ≤ sizeLine ∧
  ∀ (xs : List Str) (p : Addr), sortedS xs = true → xs.Nodup → (∀ x, x ∈ xs ↔ S x = true) → xs.length = n → H p = none → Q (.ref p) (upd H p (.lst (xs.map V.str)))
theorem cr_sortZ {X : Cx} (hc : X.calm = true) : CallR X (.builtin "sorted") (rSortZ X.w) := by
  intro pins s σ H vs us Q I r h
  obtain ⟨a, S, n, rfl, ha, hz, q⟩ := h
  rw [Vals.ref1 r]
  refine z_sorted (setZO_get I ha) (I.ok.hd hc) fun s' p out c xs k g o hp hg are h1 h2 h3 h4 => ?_
  have hn : H p = none := I.hok.fresh hp
  have J : Inv X pins σ (upd H p (.lst (xs.map V.str))) { s with heap := s'.heap, gens := s'.gens, drawn := s'.drawn, toks := s'.toks } :=
    I.call (ch := []) (Un.laid k hp hn) (I.hok.laid k hp ⟨by rw [List.length_map, h4]; exact hz, out.toList, c, vals_of_strs are, hg⟩) (by rw [g]; exact I.bare) (fun _ z => nomatch z)
  have e : s' = { s with heap := s'.heap, gens := s'.gens, drawn := s'.drawn, toks := s'.toks } := by
    cases s'
    cases s
    cases o
    rfl
  rw [e]
  exact ⟨.ref p, _, J, rfl, q xs p h1 h2 h3 h4 hn⟩
end L2.Hx

/-! set(xs) of a list of ints, sorted; x not in xs, a list of data. -/
namespace L2.Hx
open PySem PySem.Spec PyProof.Rows
section
variable {P : Program} {w : World} {A : Around} {E : Value → Shared → Prop}
variable {s : Shared}
set_option maxHeartbeats 3200000 in
theorem zi_call {l : Addr} {its : Array Value} {ws : List Int} {Q : Value → Shared → Prop} (calm : A.handled = none) (hl : s.heap.IsList l its) (are : IntsAre its.toList ws) (room : ws.length + 1 < scanBound)
    (k : ∀ (h2 : Heap) (tk c : Nat), SetR w h2 s.heap.objs.size (fun j => decide (j ∈ ws)) c → c ≤ ws.length → (∀ b o, s.heap.get? b = some o → h2.get? b = some o) → Q (.ref s.heap.objs.size) { s with heap := h2, toks := tk }) :
    wpAny (model P w) A (call (.type "set") [.ref l]) Q E s := by
  have num : its.size = ws.length := by
    have q := are.length
    rw [Array.length_toList] at q
    exact q
  generalize hD : s.heap.objs.size = D at k
  have fresh : (s.heap.push (emptyZ w)).get? D = some (emptyZ w) := by
    rw [← hD]
    exact Heap.get?_push_size _ rfl
  obtain ⟨c, tl, hmro⟩ := F.called_set.mro
  have m1 := F.called_set.made
  have m2 := F.called_set.sub
  have m3 := F.called_set.notType
  have m4 := F.called_set.canCreate
  have m5 := F.typeCall_set_1 (.ref l)
  refine wpAny_call (codeAny_of_tree ?_)
  show wpAny _ _ (callAny (.type "set") _) _ _ _
  refine wpAny_pure ⟨Code.quiet_builtin _ (by decide +kernel), codeAny_builtin F.entry_type_call ?_⟩
  rw [Around.under_plain (weight_type_call_type "set" [.ref l] []) rfl]
  repeat (any_goals (first | assumption | wp_step))
  refine codeAny_mono (code_set_led1 (.ref l) (E := E) (Q₁ := fun obj s1 => obj = .ref D ∧ s1 = { s with heap := s.heap.push (emptyZ w) }) ⟨by rw [hD], rfl⟩) fun r s1 hr => ?_
  match r, hr with
  | .error e, hr => exact hr
  | .ok (.ret obj), hr =>
    obtain ⟨rfl, rfl⟩ := hr
    have ty : Shared.TypeIs { s with heap := s.heap.push (emptyZ w) } (.ref D) "set" := ⟨_, fresh, rfl⟩
    have n1 := F.called_set.init.lookup
    have n2 := F.called_set.init.bind (.ref D)
    repeat (any_goals (first | assumption | wp_step))
    refine codeAny_mono (codeAny_call_builtin (R := wants (fun r s2 => r = .none ∧ ∃ h2 tk c, s2 = { s with heap := h2, toks := tk } ∧ SetR w h2 D (fun j => decide (j ∈ ws)) c ∧ c ≤ ws.length ∧
        (∀ b o, s.heap.get? b = some o → h2.get? b = some o)) E) F.called_set.init.plain F.entry_set_init (check_set_init_1 ty ?_)) fun r2 s2 hr2 => ?_
    · obtain ⟨ol, hol, hcl, nl, hdl⟩ := hl
      obtain ⟨ocls, odict, odata, oslots⟩ := ol
      simp only at hcl hdl
      subst hcl; subst hdl
      have lD : l < D := by
        rw [← hD]
        exact Heap.lt_size hol
      have hol1 : (s.heap.push (emptyZ w)).get? l = some { cls := .type "list", dict := odict, data := .seq its nl, slots := oslots } := Heap.get?_push_of_some _ hol
      have isL : (s.heap.push (emptyZ w)).IsList l its := ⟨_, hol1, rfl, nl, rfl⟩
      have sub1 := F.sub_list_set
      have sub2 := F.sub_list_frozenset
      have noD : (Value.type "list" == Value.type "dict") = false := by decide
      unfold Builtin.«set.__init__» noKeywords Builtin.Frozenset.updateFrom
      generalize hPI : pyIter = PI
      wp_walk
      subst hPI
      refine wpAny_pyIter_list isL (wpAny_bind (wpAny_runValue ?_))
      have calm3 : A.in1.in1.in1.handled = none := by simp [calm]
      have sz : (s.heap.push (emptyZ w)).objs.size = D + 1 := by
        rw [Heap.size_push, hD]
      have nI : l ≠ (s.heap.push (emptyZ w)).objs.size := by
        rw [sz]
        exact Nat.ne_of_lt (Nat.lt_succ_of_lt lD)
      have nD : D ∉ [(s.heap.push (emptyZ w)).objs.size, l] := by
        rw [sz]
        simp only [List.mem_cons, List.not_mem_nil, or_false, not_or]
        exact ⟨Nat.ne_of_lt (Nat.lt_succ_self _), Nat.ne_of_gt lD⟩
      have each : ∀ (i : Nat) (v : Value), its[i]? = some v → ∃ x u, ws[i]? = some x ∧ v = Value.int x u := fun i v hv => by
        have q : its.toList[i]? = some v := by
          rw [Array.getElem?_toList]
          exact hv
        have lt : i < ws.length := by
          rw [← num]
          exact (Array.getElem?_eq_some_iff.mp hv).1
        obtain ⟨u, eu⟩ := PyProof.Rows.IntsAre.int_at are i v q
        refine ⟨ws[i], u, List.getElem?_eq_getElem lt, ?_⟩
        rw [eu, List.getD_eq_getElem?_getD, List.getElem?_eq_getElem lt]
        rfl
      refine set_update_ints ((Walks.list calm3 _ l nI its).toS) D nD ws num room each (its.size - 0) 0 _ (by omega) (Nat.zero_le _) ⟨⟨_, Heap.get?_push_size _ rfl, rfl, rfl⟩, (isL.push _)⟩ ⟨0, Nat.le_refl 0, ?_⟩ ?_
      · exact setR_new_at (Heap.get?_push_of_some _ fresh)
      · intro s' c' mv hc' hD'
        obtain ⟨h2, g2, d2, tk2, os2⟩ := s'
        have eg : g2 = s.gens := mv.gens
        have ed : d2 = s.drawn := mv.drawn
        have eo : os2 = s.os := mv.os
        subst eg; subst ed; subst eo
        show wpAny _ _ _ _ _ _
        refine wpAny_pure ?_
        show wpAny _ _ (ret Value.none) _ _ _
        rw [num] at hc'
        refine wpAny_pure ⟨rfl, h2, tk2, c', rfl, hD', hc', fun b o e => ?_⟩
        have lt : b < D := by
          rw [← hD]
          exact Heap.lt_size e
        refine mv.heap b o ?_ (Heap.get?_push_of_some _ (Heap.get?_push_of_some _ e))
        rw [sz]
        simp only [List.mem_cons, List.not_mem_nil, or_false, not_or]
        exact ⟨Nat.ne_of_lt lt, Nat.ne_of_lt (Nat.lt_succ_of_lt lt)⟩
    · match r2, hr2 with
      | .error e, hr2 => exact hr2
      | .ok (.ret r), hr2 =>
        obtain ⟨rfl, h2, tk, c', rfl, hD', hc', keep⟩ := hr2
        repeat (any_goals (first | assumption | wp_step))
        exact k _ _ _ hD' hc' keep
end
end L2.Hx

/-! set(xs) of a list of ints as a rule; x not in xs, a list of data. -/
namespace L2.Hx
open PySem PySem.Spec PyProof.Rows
/-- sorted(set(xs)), xs a list of ints -/
def rSetOfI (K : PySem.W.Frag) (w : World) : List V → Hp → VK → Prop := fun vs H Q => ∃ (l : Addr) (ws : List Int), vs = [V.ref l] ∧ SqL K H l (ws.map V.int) ∧ ws.length + 1 < scanBound ∧
  ∀ (a : Addr) (n : Nat), H a = none → n ≤ ws.length → Q (.ref a) (upd H a (SetO w a (fun j => decide (j ∈ ws)) n))
theorem cr_setOfI {X : Cx} (hc : X.calm = true) : CallR X (.type "set") (rSetOfI X.K X.w) := by
  intro pins s σ H vs us Q I r h
  obtain ⟨l, ws, rfl, hl, room, q⟩ := h
  rw [Vals.ref1 r]
  obtain ⟨its, rv, pl, _⟩ := I.list hl
  refine zi_call (I.ok.hd hc) pl.isList (by simpa using rv.ints) room fun h2 tk c R hcn keep => ?_
  exact ⟨.ref _, upd H _ (SetO X.w _ _ c), I.laid (t' := tk) keep (Nat.le_refl _) (setO_new R), rfl, q _ c (I.hok.fresh (Nat.le_refl _)) hcn⟩
/-- x not in xs, both any data, xs a list -/
def rNotInLD (K : PySem.W.Frag) : R2 := fun x y H Q => ∃ d ds, Dp K H x d ∧ Dp K H y (.list ds) ∧ SeqAt.shaped d = true ∧ SeqAt.shaped (.list ds) = true ∧ Q (.bl (!ds.any fun z => PyData.eqv z d)) H
theorem op_notInLD {X : Cx} (hu : X.A.units + 65 < cLine) : OpR X (compareOp .NotIn) (rNotInLD X.K) := by
  intro pins s σ H x y v u Q I rx ry h
  obtain ⟨d, ds, hd, he, sd, se, q⟩ := h
  obtain ⟨as, r1⟩ := Dp.reads I d x v hd rx
  obtain ⟨bs, r2⟩ := Dp.reads I (.list ds) y u he ry
  exact SeqAt.notIn_list_reads r2 r1 (SeqAt.canLay_of_shaped se) (SeqAt.canLay_of_shaped sd) (room_in_shaped sd hu) ⟨.bl _, H, I, rfl, q⟩
end L2.Hx

/-! The arrows of a part put in. -/
namespace L2.Hx
open PySem PySem.Spec PyProof.Rows
theorem seq_by {a b : TS} {D : Ends} {σ : St} {H : Hp} (J : St → Hp → Prop) (h1 : (∀ σ2 H2, J σ2 H2 → b D σ2 H2) → a { D with nx := b D } σ H) (h2 : ∀ σ2 H2, J σ2 H2 → b D σ2 H2) : tSeq a b D σ H := h1 h2
theorem cons_by {t : TE} {r : TA} {σ : St} {H : Hp} {Q : List V → Hp → Prop} (I : V → Hp → Prop) (h : ∀ Q' : VK, (∀ v H2, I v H2 → Q' v H2) → t σ H Q') (k : ∀ v H2, I v H2 → r σ H2 fun xs H3 => Q (v :: xs) H3) : tCons t r σ H Q := h _ k
theorem layF_cons {word : Str} {wp : Wp} {a s : Int} {r : List Int} : layF word wp a (s :: r) = if a = 0 ∨ a ∈ keysA wp then none else layF word (putA wp a (word, s)) s r := rfl
theorem sq_dk {K : PySem.W.Frag} {F : Addr} {o2 : HO} {H : Hp} {a : Addr} {xs : List V} {kvs : List (Key × V)} (hF : H F = some (.dK kvs)) (q : SqT K H a xs) : SqT K (upd H F o2) a xs := by
  have n : ∀ o, H a = some o → (∀ ys, o ≠ .dK ys) → a ≠ F := fun o e z q => by
    rw [q, hF] at e
    exact z kvs (Option.some.inj e).symm
  rcases q with (q | ⟨o, q⟩) | q
  · exact .inl (.inl (by rw [upd_ne (n _ q (by intro k z; cases z))]; exact q))
  · exact .inl (.inr ⟨o, by rw [upd_ne (n _ q (by intro k z; cases z))]; exact q⟩)
  · exact .inr q
def WyAt (K : PySem.W.Frag) (H : Hp) (d : Addr) (wp : Wp) : Prop := ∃ ws : Ws, H d = some (.dK (kvK Sum.inl wyV ws)) ∧ (∀ q ∈ ws, SqT K H q.2.1 [.str q.2.2.1, .int q.2.2.2]) ∧ ws.map (fun q => (q.1, q.2.2)) = wp
theorem WyAt.mono {K : PySem.W.Frag} {H H' : Hp} {d : Addr} {wp : Wp} (s : Same H H') (h : WyAt K H d wp) : WyAt K H' d wp := by
  obtain ⟨ws, a, b, c⟩ := h
  exact ⟨ws, s _ _ a, fun q m => sameT s (b q m), c⟩
def WysIn (K : PySem.W.Frag) (Hx : Hp) (L : Addr) (wps : List Wp) : Prop := ∃ ds : List Addr, Hx L = some (.lst (ds.map V.ref)) ∧ Paired (fun (d : Addr) (wp : Wp) => WyAt K Hx d wp) ds wps
def WysAt (K : PySem.W.Frag) (H0 Hx : Hp) (B : Addr) (wps : List Wp) : Prop := Same H0 Hx ∧ ∃ ds : List Addr, Hx B = some (.lst (ds.map V.ref)) ∧ Paired (fun (d : Addr) (wp : Wp) => d ≠ B ∧ WyAt K Hx d wp) ds wps
theorem WysIn.mono {K : PySem.W.Frag} {Hx Hy : Hp} {L : Addr} {wps : List Wp} (s : Same Hx Hy) (R : WysIn K Hx L wps) : WysIn K Hy L wps := by
  obtain ⟨ts, h, p⟩ := R
  exact ⟨ts, s _ _ h, paired_mpL p fun t r h => h.mono s⟩
theorem WysAt.in_ {K : PySem.W.Frag} {H0 Hx : Hp} {B : Addr} {wps : List Wp} (R : WysAt K H0 Hx B wps) : WysIn K Hx B wps := by
  obtain ⟨_, ts, h, p⟩ := R
  exact ⟨ts, h, paired_mpL p fun t r h => h.2⟩
theorem wys_keep {K : PySem.W.Frag} {H0 Hx Hy : Hp} {B : Addr} {wps : List Wp} (s : Same Hx Hy) (R : WysAt K H0 Hx B wps) : WysAt K H0 Hy B wps := by
  obtain ⟨s0, ds, h, p⟩ := R
  exact ⟨s0.trans s, ds, s _ _ h, paired_mpL p fun u q hq => ⟨hq.1, hq.2.mono s⟩⟩
theorem wys_add {K : PySem.W.Frag} {H0 Hx Hy : Hp} {B : Addr} {wps : List Wp} (hB : H0 B = none) (R : WysAt K H0 Hx B wps) (s : Same Hx Hy) {d : Addr} {wp : Wp} (hd : WyAt K Hy d wp) :
    ∃ acc, Hy B = some (.lst acc) ∧ acc.length = wps.length ∧ WysAt K H0 (upd Hy B (.lst (acc ++ [.ref d]))) B (wps ++ [wp]) := by
  obtain ⟨s0, ds, h, p⟩ := R
  have hy := s _ _ h
  have up : ∀ {e : Addr} {q : Wp}, e ≠ B → WyAt K Hy e q → WyAt K (upd Hy B (.lst (ds.map V.ref ++ [.ref d]))) e q := fun n h => by
    obtain ⟨ws, a, b, c⟩ := h
    exact ⟨ws, by rw [upd_ne n]; exact a, fun q m => sq_lst hy (b q m), c⟩
  have n : d ≠ B := fun e => by
    obtain ⟨ws, a, _⟩ := hd
    rw [e, hy] at a
    cases a
  refine ⟨ds.map V.ref, hy, by rw [List.length_map]; exact Paired.length p, sameOut (s0.trans s) hB, ds ++ [d], by rw [upd_same, List.map_append]; rfl, ?_⟩
  exact paired_snoc (paired_mpL p fun u q hq => ⟨hq.1, up hq.1 (hq.2.mono s)⟩) ⟨n, up n hd⟩
theorem wys_both {K : PySem.W.Frag} {Hx : Hp} {A B : Addr} {r1 r2 : List Wp} (R1 : WysIn K Hx A r1) (R2 : WysIn K Hx B r2) : ∃ xs ys, Hx A = some (.lst xs) ∧ Hx B = some (.lst ys) ∧ xs.length = r1.length ∧ ys.length = r2.length ∧ ∀ L, Hx L = none → WysIn K (upd Hx L (.lst (xs ++ ys))) L (r1 ++ r2) := by
  obtain ⟨ts, h1, p1⟩ := R1
  obtain ⟨us, h2, p2⟩ := R2
  exact ⟨_, _, h1, h2, by rw [List.length_map]; exact Paired.length p1, by rw [List.length_map]; exact Paired.length p2, fun L hL => ⟨ts ++ us, by rw [upd_same, List.map_append], paired_append (paired_mpL p1 fun t r h => h.mono (sameAdd hL)) (paired_mpL p2 fun t r h => h.mono (sameAdd hL))⟩⟩
def spPutIn (K : PySem.W.Frag) : Sp := fun vs H Q _ => ∃ (ha wa sa : Addr) (x : V) (hm : Hm) (wp : Wp) (r : Row) (sp : List Int) (one other : Int) (G : Hp), vs = [.ref ha, .ref wa, x, .ref sa] ∧ H ha = some (.dK (kvK Sum.inr V.int hm)) ∧ WyAt K H wa wp ∧ Same G H ∧ Da K G x (lrowD r) ∧ SqL K H sa (sp.map V.int) ∧
  getA hm r.2.1 = some one ∧ getA hm r.2.2 = some other ∧ sp.length ≤ 4 ∧ BtOk sp one other ∧ wp.length ≤ 200 ∧
  ∀ (L : Addr) (H' : Hp), Same H H' → WysIn K H' L (putF r.1 one other sp wp) → Q (.ref L) H'
section
variable {P : Program} {w : World} {K : PySem.W.Frag} {mg : Str → Option Value} {base : Heap}
theorem D_l_put_in (T : Txt K mg) : Df P w K mg base 2 "_law_put_in" ["home", "ways", "part", "spots"] (spPutIn K) := by
  have D_l_rows := D_l_rows (P := P) (w := w) (base := base) T
  obtain ⟨f, fd, S⟩ := T.d_l_put_in
  refine Df.mk' (k := 1) S sc_l_put_in (fun vs H Q E h => ?_) (fun cdv A outer s H vs Q E hgd hr h => ?_)
  · obtain ⟨ha, wa, sa, x, hm, wp, r, sp, one, other, G, rfl, _⟩ := h
    rfl
  · obtain ⟨ha, wa, sa, x, hm, wp, r, sp, one, other, G, rfl, hH, hW, sm, dr, hS, g1, g2, l4, bt, lw, k⟩ := h
    have hu := hu_of hr
    have big : (5000 : Nat) ≤ sizeLine := by decide
    obtain ⟨pt, rfl, sqp⟩ := row_at dr
    have dg1 : DGet H ha (.str r.2.1) (some (.int one)) := by
      have := dgetS (f := V.int) hH r.2.1
      rw [g1] at this
      exact this
    have dg2 : DGet H ha (.str r.2.2) (some (.int other)) := by
      have := dgetS (f := V.int) hH r.2.2
      rw [g2] at this
      exact this
    refine ⟨_, (pss_cons (ps_asg (pe_tup (pa_cons (pe_ix ix_tup (pv 2) pe_int (fun _ _ => rfl)) (pa_cons (pe_dget hu (pv 0) (pe_ix ix_tup (pv 2) pe_int (fun _ _ => rfl)) (fun _ _ => rfl)) (pa_cons (pe_dget hu (pv 0) (pe_ix ix_tup (pv 2) pe_int (fun _ _ => rfl)) (fun _ _ => rfl)) pa_nil)))) (pg_tup rfl (pgs_cons (pg_name (i := 4) sc_l_put_in.nd rfl (.inl rfl)) (pgs_cons (pg_name (i := 5) sc_l_put_in.nd rfl (.inr rfl)) (pgs_cons (pg_name (i := 6) sc_l_put_in.nd rfl (.inr rfl)) pgs_nil)))))
      (pss_cons (ps_if (pt_cmpR op_eq (pv 4) pe_str (nomark _)) (pss_one (ps_set (i := 7) sc_l_put_in.nd rfl (.inl rfl) (pe_lst (pa_cons (pe_tup (pa_cons (pv 6) pa_nil)) pa_nil)))) (pss_cons (ps_setLc (i := 8) (X := (cxOf CX0 P w K mg base ["home", "ways", "part", "spots", "kind", "one", "other", "rows", "between", "spot", "row", "got", "fresh", "here"] "_law_put_in" (defScope s_l_put_in) f cdv A outer s H E).nox) (own := [("spot", 9)]) (tt := tTest (tOp (rIn K true) (tVar 9) (tTup (tCons (tC (.int 0)) (tCons (tVar 5) (tCons (tVar 6) tNil)))))) (te := tVar 9) (g := gName 9) rfl sc_l_put_in.nd rfl rfl (sw_true rfl rfl rfl (by decide +kernel)) (pi_list (pv 3)) (blkOk_by (own := [("spot", 9)]) (N := ["home", "ways", "part", "spots", "kind", "one", "other", "rows", "between", "spot", "row", "got", "fresh", "here"]) (sc := defScope s_l_put_in) (by decide +kernel)) (fun _ _ _ _ _ => pg_name (i := 9) sc_l_put_in.nd rfl (.inl rfl)) (fun _ _ _ _ _ => (pts_one (pt_cmpR op_notIn_seq (pv 9) (pe_tup (pa_cons pe_int (pa_cons (pv 5) (pa_cons (pv 6) pa_nil)))) (by rfl)))) (fun _ _ _ _ _ => (pv 9)))
      (pss_one (ps_set (i := 7) sc_l_put_in.nd rfl (.inl rfl) (pe_ifExp (pt_cmpR op_eq (pv 5) (pv 6) (nomark _)) (pe_lst (pa_cons (pe_tup pa_nil) pa_nil)) (pe_lc (X := (cxOf CX0 P w K mg base ["home", "ways", "part", "spots", "kind", "one", "other", "rows", "between", "spot", "row", "got", "fresh", "here"] "_law_put_in" (defScope s_l_put_in) f cdv A outer s H E).nox) (own := [("row", 10)]) (te := tOp (rCatA K) (tVar 10) (tTup (tCons (tVar 6) tNil))) (g := gName 10) (tt := tYes) rfl sc_l_put_in.nd (pi_list (pe_d D_l_rows hgd hr (pa_cons (pv 8) pa_nil))) (blkOk_by (own := [("row", 10)]) (N := ["home", "ways", "part", "spots", "kind", "one", "other", "rows", "between", "spot", "row", "got", "fresh", "here"]) (sc := defScope s_l_put_in) (by decide +kernel)) (fun _ _ _ _ _ => pg_name (i := 10) sc_l_put_in.nd rfl (.inl rfl)) (fun _ _ _ _ _ => pts_nil) (fun _ _ _ _ _ => (pe_op op_catA (pv 10) (pe_tup (pa_cons (pv 6) pa_nil))))))))))
      (pss_cons (ps_set (i := 11) sc_l_put_in.nd rfl (.inl rfl) (pe_lst pa_nil))
      (pss_cons (ps_for PassesOwn.never rfl (pi_list (pv 7)) (pg_name (i := 10) sc_l_put_in.nd rfl (.inl rfl))
      (pss_cons (ps_par (i := 12) (j := 13) (by rfl) sc_l_put_in.nd rfl rfl (by decide) rfl rfl (pa_cons (pe_callTy call_dictD (by rfl) T.b_dict (by decide +kernel) (pa_cons (pv 1) pa_nil)) (pa_cons (pv 5) pa_nil)) (by rfl))
      (pss_cons (ps_for PassesOwn.never rfl (pi_tup (pv 10)) (pg_name (i := 9) sc_l_put_in.nd rfl (.inl rfl))
      (pss_cons (ps_if (PW.pt (pw_or (pt_cmpR op_eq (pv 13) pe_int (nomark _)) (pw_or1 (pt_cmp (pc_din hu (pv 13) (pv 12)))))) (pss_cons (ps_set (i := 12) sc_l_put_in.nd rfl (.inl rfl) pe_non)
      (pss_one ps_break)) pss_nil)
      (pss_one (ps_asg (pe_tup (pa_cons (pe_tup (pa_cons (pe_ifExp (pt_cmpR op_eq (pv 4) pe_str (nomark _)) pe_str pe_str) (pa_cons (pv 9) pa_nil))) (pa_cons (pv 9) pa_nil))) (pg_tup rfl (pgs_cons (pg_sub (pv 12) (pv 13) (set_dict hu)) (pgs_cons (pg_name (i := 13) sc_l_put_in.nd rfl (.inl rfl)) pgs_nil)))))))
      (pss_one (ps_if (pt_cmpR op_notN (pv 12) pe_non (nomark _)) (pss_one (ps_expr (pe_bm PySem.F.plainAttrs_list PySem.F.slot_list_append PySem.F.type_list_append mt_append (pv 11) (pa_cons (pv 12) pa_nil)))) pss_nil)))))
      (pss_one (ps_ret (pv 11))))))), ?_⟩
    refine ⟨_, rfl, pt, _, 0, _, rfl, rfl, sameT sm sqp, rfl, _, rfl, _, rfl, pt, _, 1, _, rfl, rfl, sameT sm sqp, rfl, ha, _, rfl, dg1, _, rfl, _, rfl, pt, _, 2, _, rfl, rfl, sameT sm sqp, rfl, ha, _, rfl, dg2, by show 3 ≤ sizeLine; decide, fun t0 ht0 => ?_⟩
    have s1 := sameAdd (o := .tup [V.str r.1, V.int one, V.int other]) ht0
    have t01 : (upd H t0 (.tup [V.str r.1, V.int one, V.int other])) t0 = some (.tup [V.str r.1, V.int one, V.int other]) := upd_same
    generalize upd H t0 (.tup [V.str r.1, V.int one, V.int other]) = H1 at s1 t01 ⊢
    refine ⟨t0, _, rfl, SqT.of t01, rfl, _, _, rfl, _, _, rfl, _, _, rfl, rfl, ?_⟩
    dsimp only [gName, List.set]
    refine seq_by (fun σ2 Hx => ∃ (o8 o9 o10 : Option V) (Lr : Addr), σ2 = [some (.ref ha), some (.ref wa), some (.ref pt), some (.ref sa), some (.str r.1), some (.int one), some (.int other), some (.ref Lr), o8, o9, o10, none, none, none] ∧ Same H1 Hx ∧ RsIn Hx Lr (rowsP r.1 one other sp)) (fun fin => ?_) ?_
    · refine ⟨_, rfl, rfl, _, rfl, ?_⟩
      rw [str_eq]
      refine iteD (fun hc => ?_) (fun hc => ?_)
      · refine ⟨_, rfl, by show 1 ≤ sizeLine; decide, fun t2 ht2 => ⟨by show 1 ≤ sizeLine; decide, fun L hL => ?_⟩⟩
        dsimp only [gName, List.set]
        have s2 := sameAdd (o := .tup [V.int other]) ht2
        have s3 := sameAdd (o := .lst [V.ref t2]) hL
        refine fin _ _ ⟨_, _, _, L, rfl, s2.trans s3, ?_⟩
        unfold rowsP
        rw [if_pos hc]
        exact ⟨[t2], upd_same, .cons (s3 _ _ upd_same) .nil⟩
      · refine ⟨_, rfl, sa, rfl, ⟨_, s1.seq hS⟩, fun D hD => lc_list (K := K) (a := sa) (xs := sp.map V.int) (fun i Hz => Same H1 Hz ∧ Hz D = some (.lst ((btwP (sp.take i) one other).map V.int))) ⟨sameAdd hD, upd_same⟩ (fun i Hz _ h => (s1.trans h.1).seq hS) ?_ ?_⟩
        · rintro i y Hz hx ⟨sz, hz⟩
          rw [List.getElem?_map] at hx
          obtain ⟨z, hz2, rfl⟩ := Option.map_eq_some_iff.mp hx
          have tk : sp.take (i + 1) = sp.take i ++ [z] := by rw [List.take_add_one, hz2]; rfl
          have lb : (btwP (sp.take i) one other).length ≤ 4 := by
            refine Nat.le_trans (List.length_filter_le _ _) ?_
            rw [List.length_take]
            omega
          refine ⟨rfl, _, rfl, _, rfl, _, rfl, by show 3 ≤ sizeLine; decide, fun t2 ht2 => ?_⟩
          have s2 := sameAdd (o := .tup [V.int 0, V.int one, V.int other]) ht2
          refine ⟨t2, _, rfl, .inr (SqT.of upd_same), rfl, flat_ints [0, one, other], _, rfl, ?_⟩
          have hz3 := s2 _ _ hz
          generalize upd Hz t2 (.tup [V.int 0, V.int one, V.int other]) = H4 at s2 hz3 ⊢
          show if (!inV (.int z) (([0, one, other] : List Int).map V.int)) = true then _ else _
          rw [inV_int]
          refine iteND (fun hn => ?_) (fun hn => ?_)
          · refine ⟨_, rfl, _, hz3, by rw [List.length_map]; omega, sameOut (sz.trans s2) hD, ?_⟩
            rw [upd_same, tk]
            unfold btwP
            rw [List.filter_append, show [z].filter (fun s => decide (¬ s ∈ [0, one, other])) = [z] by rw [List.filter_cons, if_pos (decide_eq_true hn)]; rfl, List.map_append]
            rfl
          · refine ⟨sz.trans s2, ?_⟩
            rw [hz3, tk]
            unfold btwP
            rw [List.filter_append, show [z].filter (fun s => decide (¬ s ∈ [0, one, other])) = [] by rw [List.filter_cons, if_neg (fun q => (of_decide_eq_true q) hn)]; rfl, List.append_nil]
        · rintro Hz ⟨sz, hz⟩
          rw [List.length_map, List.take_length] at hz
          dsimp only [gName, List.set]
          refine ⟨_, rfl, _, rfl, rfl, _, rfl, ?_⟩
          rw [int_eq]
          refine iteD (fun h1 => ?_) (fun h1 => ?_)
          · refine ⟨by show 0 ≤ sizeLine; exact Nat.zero_le _, fun t2 ht2 => ⟨by show 1 ≤ sizeLine; decide, fun L hL => ?_⟩⟩
            dsimp only [gName, List.set]
            have s2 := sameAdd (o := .tup []) ht2
            have s3 := sameAdd (o := .lst [V.ref t2]) hL
            refine fin _ _ ⟨_, _, _, L, rfl, sz.trans (s2.trans s3), ?_⟩
            unfold rowsP
            rw [if_neg hc, if_pos h1]
            exact ⟨[t2], upd_same, .cons (s3 _ _ upd_same) .nil⟩
          · refine ⟨_, rfl, D, btwP sp one other, rfl, SqL.of hz, bt h1, fun Lr k0 H5 s5 hk hend RI => ?_⟩
            rw [got_all hend] at RI
            obtain ⟨ts, hLr, pts⟩ := RI
            have la := all_len (sp := btwP sp one other) (bt h1)
            refine ⟨Lr, rfl, ⟨_, SqL.of hLr⟩, fun D2 hD2 => lc_list (K := K) (a := Lr) (xs := ts.map V.ref) (fun i Hz2 => RsAt H5 Hz2 D2 (((allR (btwP sp one other)).take i).map fun r => r ++ [other])) ⟨sameAdd hD2, [], upd_same, .nil⟩ (fun i Hz2 _ h => SqL.of (h.1 _ _ hLr)) ?_ ?_⟩
            · rintro i y Hz2 hx R2
              rw [List.getElem?_map] at hx
              obtain ⟨tr, htr, rfl⟩ := Option.map_eq_some_iff.mp hx
              obtain ⟨rw0, hr2, hrow⟩ := paired_at pts htr
              have il := (List.getElem?_eq_some_iff.mp hr2).1
              have lr0 : rw0.length ≤ 4 := by
                have o := got_ok (sp := btwP sp one other) _ rw0 (List.mem_of_getElem? hr2)
                have := once_len (T := rw0) (ks := btwP sp one other) o
                have := bt h1
                omega
              have tk : (allR (btwP sp one other)).take (i + 1) = (allR (btwP sp one other)).take i ++ [rw0] := by rw [List.take_add_one, hr2]; rfl
              have hrz := R2.1 _ _ hrow
              have fin2 : ∀ (Hw : Hp) (t2 : Addr), Same Hz2 Hw → Hw t2 = some (inT (rw0 ++ [other])) → ∃ acc, Hw D2 = some (.lst acc) ∧ acc.length < sizeLine ∧ RsAt H5 (upd Hw D2 (.lst (acc ++ [.ref t2]))) D2 (((allR (btwP sp one other)).take (i + 1)).map fun r => r ++ [other]) := fun Hw t2 sw h2 => by
                obtain ⟨acc, a1, a2, a3⟩ := rs_add hD2 R2 sw h2
                rw [List.length_map, List.length_take] at a2
                refine ⟨acc, a1, by omega, ?_⟩
                rw [tk, List.map_append]
                exact a3
              refine ⟨rfl, _, rfl, _, rfl, by show 1 ≤ sizeLine; decide, fun t2 ht2 => ?_⟩
              have s2 := sameAdd (o := .tup [V.int other]) ht2
              have t22 : (upd Hz2 t2 (.tup [V.int other])) t2 = some (.tup [V.int other]) := upd_same
              generalize upd Hz2 t2 (.tup [V.int other]) = H7 at s2 t22 ⊢
              refine ⟨tr, t2, rw0.map V.int, [V.int other], rfl, rfl, SqT.of (s2 _ _ hrz), SqT.of t22, ?_, fun e => ?_, fun _ e => absurd e (List.cons_ne_nil _ _), fun _ _ p hp => ?_⟩
              · rw [List.length_map, List.length_singleton]
                omega
              · have e0 : rw0 = [] := List.map_eq_nil_iff.mp e
                exact fin2 H7 t2 s2 (by rw [e0]; exact t22)
              · exact fin2 _ p (s2.trans (sameAdd hp)) (by rw [upd_same]; show some (HO.tup (rw0.map V.int ++ [V.int other])) = some (HO.tup ((rw0 ++ [other]).map V.int)); rw [List.map_append]; rfl)
            · rintro Hz2 R2
              have lts : ts.length = (allR (btwP sp one other)).length := Paired.length pts
              rw [List.length_map, lts, List.take_length] at R2
              dsimp only [gName, List.set]
              refine fin _ _ ⟨_, _, _, D2, rfl, sz.trans (s5.trans R2.1), ?_⟩
              unfold rowsP
              rw [if_neg hc, if_neg h1]
              exact R2.in_
    · rintro σ Hx ⟨o8, o9, o10, Lr, rfl, sx, R⟩
      have lrow := rowsP_row (kind := r.1) bt
      have lrows := rowsP_len (kind := r.1) bt
      unfold putF at k
      generalize rowsP r.1 one other sp = rows at R lrow lrows k
      obtain ⟨ts, hLr, pts⟩ := R
      have lts : ts.length = rows.length := Paired.length pts
      have s2 := s1.trans sx
      clear s1 sx t01 ht0
      refine ⟨by show 0 ≤ sizeLine; exact Nat.zero_le _, fun g0 hg0 => ?_⟩
      dsimp only [gName, List.set]
      refine ⟨_, rfl, Lr, rfl, ⟨_, SqL.of (sameAdd hg0 _ _ hLr)⟩, for_list (K := K) (a := Lr) (xs := ts.map V.ref) (fun i σ Hy => ∃ (o8 o9 o10 o12 o13 : Option V), σ = [some (.ref ha), some (.ref wa), some (.ref pt), some (.ref sa), some (.str r.1), some (.int one), some (.int other), some (.ref Lr), o8, o9, o10, some (.ref g0), o12, o13] ∧ WysAt K Hx Hy g0 ((rows.take i).filterMap (layF (wordP r.1) wp one)))
        ⟨_, _, _, _, _, rfl, sameAdd hg0, [], upd_same, .nil⟩ (fun i σ Hy _ ⟨_, _, _, _, _, _, h⟩ => SqL.of (h.1 _ _ hLr)) ?_ ?_⟩
      · rintro i y σ Hy hy ⟨o8, o9, o10, o12, o13, rfl, Ry⟩
        rw [List.getElem?_map] at hy
        obtain ⟨tr, htr, rfl⟩ := Option.map_eq_some_iff.mp hy
        obtain ⟨row, hrw, hrow⟩ := paired_at pts htr
        have lr3 := lrow row (List.mem_of_getElem? hrw)
        have tk : rows.take (i + 1) = rows.take i ++ [row] := by rw [List.take_add_one, hrw]; rfl
        have lacc : ((rows.take i).filterMap (layF (wordP r.1) wp one)).length ≤ 13 := by
          refine Nat.le_trans (List.length_filterMap_le _ _) ?_
          rw [List.length_take]
          omega
        have sy := Ry.1
        dsimp only [gName, List.set]
        obtain ⟨ws, hwa, tws, ews⟩ := hW
        have hwy := sy _ _ (s2 _ _ hwa)
        refine ⟨_, rfl, wa, _, rfl, .of hwy, fun F hF => ⟨_, rfl, ?_⟩⟩
        dsimp only [gName, List.set]
        have sF := sameAdd (o := .dK (kvK Sum.inl wyV ws)) hF
        have WF : WyAt K (upd Hy F (.dK (kvK Sum.inl wyV ws))) F wp := ⟨ws, upd_same, fun q m => sameT (s2.trans (sy.trans sF)) (tws q m), ews⟩
        have hrF := sF _ _ (sy _ _ hrow)
        have gyF : Hy F = none := hF
        generalize upd Hy F (.dK (kvK Sum.inl wyV ws)) = HF at sF WF hrF ⊢
        refine ⟨_, _, rfl, ?_⟩
        refine seq_by (fun σ2 Hz => ∃ (o9 o13 : Option V) (u : V), σ2 = [some (.ref ha), some (.ref wa), some (.ref pt), some (.ref sa), some (.str r.1), some (.int one), some (.int other), some (.ref Lr), o8, o9, some (.ref tr), some (.ref g0), some u, o13] ∧ Same Hy Hz ∧
            match layF (wordP r.1) wp one row with
              | none => u = .non
              | some wp' => ∃ F, u = .ref F ∧ WyAt K Hz F wp') (fun fin2 => ?_) ?_
        · have okN : layF (wordP r.1) wp one row = none → ∀ (o9 o13 : Option V) Hz, Same Hy Hz → _ := fun e o9 o13 Hz sz => fin2 _ Hz ⟨o9, o13, .non, rfl, sz, by rw [e]⟩
          refine ⟨_, rfl, tr, rfl, ⟨_, SqT.of hrF⟩, for_tup (K := K) (a := tr) (xs := row.map V.int) (fun j σ Hz => ∃ (o9 : Option V) (here : Int) (wj : Wp), σ = [some (.ref ha), some (.ref wa), some (.ref pt), some (.ref sa), some (.str r.1), some (.int one), some (.int other), some (.ref Lr), o8, o9, some (.ref tr), some (.ref g0), some (.ref F), some (.int here)] ∧ Same Hy Hz ∧ Hz tr = some (inT row) ∧ WyAt K Hz F wj ∧ wj.length ≤ wp.length + j ∧ layF (wordP r.1) wp one row = layF (wordP r.1) wj here (row.drop j))
            ⟨_, one, wp, rfl, sF, hrF, WF, Nat.le_refl _, rfl⟩ (fun j σ Hz _ ⟨_, _, _, _, _, h, _⟩ => SqT.of h) ?_ ?_⟩
          · rintro j y σ Hz hy ⟨o9, here, wj, rfl, sz, htz, Wj, lwj, ej⟩
            rw [List.getElem?_map] at hy
            obtain ⟨sp0, hsp, rfl⟩ := Option.map_eq_some_iff.mp hy
            have jl := (List.getElem?_eq_some_iff.mp hsp).1
            have dr : row.drop j = sp0 :: row.drop (j + 1) := by
              rw [List.drop_eq_getElem_cons jl]
              congr 1
              rw [List.getElem?_eq_getElem jl] at hsp
              exact Option.some.inj hsp
            rw [dr, layF_cons] at ej
            dsimp only [gName, List.set]
            obtain ⟨wsj, hwj, twj, ewj⟩ := Wj
            have kj : keysA wj = keysA wsj := by
              rw [← ewj]
              unfold keysA
              rw [List.map_map]
              rfl
            have lwsj : wsj.length = wj.length := by rw [← ewj, List.length_map]
            refine ⟨_, rfl, rfl, _, rfl, ?_⟩
            rw [int_eq]
            refine iteD (fun h0 => ?_) (fun h0 => ?_)
            · rw [if_pos (.inl h0)] at ej
              exact if_yes rfl (fin2 _ _ ⟨_, _, .non, rfl, sz, by rw [ej]⟩)
            · refine ⟨_, rfl, _, rfl, F, _, rfl, dgetI (f := wyV) hwj here, _, rfl, ?_⟩
              rw [isA]
              refine iteD (fun h1 => ?_) (fun h1 => ?_)
              · rw [if_pos (.inr (by rw [kj]; exact h1))] at ej
                exact fin2 _ _ ⟨_, _, .non, rfl, sz, by rw [ej]⟩
              · have fr : ¬ here ∈ keysA wj := fun z => h1 (by rw [← kj]; exact z)
                rw [if_neg (fun z => z.elim h0 fr)] at ej
                dsimp only [tNext]
                rw [eAsg, eTup, eCons, eTup]
                refine cons_by (I := fun v H2 => v = .str (wordP r.1) ∧ H2 = Hz) (fun Q' kq => ?_) ?_
                · refine ⟨_, rfl, rfl, _, rfl, ?_⟩
                  rw [str_eq]
                  refine iteD (fun hc => ?_) (fun hc => ?_)
                  · exact kq _ _ ⟨by unfold wordP; rw [if_pos hc], rfl⟩
                  · exact kq _ _ ⟨by unfold wordP; rw [if_neg hc], rfl⟩
                rintro v H2 ⟨rfl, eH⟩
                rw [eH]
                clear eH H2
                refine ⟨_, rfl, by show 2 ≤ sizeLine; decide, fun t5 ht5 => ⟨_, rfl, by show 2 ≤ sizeLine; decide, fun t6 ht6 => ?_⟩⟩
                have s5 := sameAdd (o := .tup [V.str (wordP r.1), V.int sp0]) ht5
                have s6 := sameAdd (o := .tup [V.ref t5, V.int sp0]) ht6
                have q5 := s6 _ _ (show (upd Hz t5 (.tup [V.str (wordP r.1), V.int sp0])) t5 = some (.tup [V.str (wordP r.1), V.int sp0]) from upd_same)
                have q6 : (upd (upd Hz t5 (.tup [V.str (wordP r.1), V.int sp0])) t6 (.tup [V.ref t5, V.int sp0])) t6 = some (.tup [V.ref t5, V.int sp0]) := upd_same
                have s56 := s5.trans s6
                generalize upd (upd Hz t5 (.tup [V.str (wordP r.1), V.int sp0])) t6 (.tup [V.ref t5, V.int sp0]) = H6 at s56 q5 q6 ⊢
                clear s5 s6 ht5 ht6
                have hF6 := s56 _ _ hwj
                have ePut : putA wsj here ((t5, wordP r.1, sp0) : Wy) = wsj ++ [(here, (t5, wordP r.1, sp0))] := by
                  unfold putA
                  rw [if_neg h1]
                have nF : tr ≠ F := fun z => by
                  have := s56 _ _ htz
                  rw [z, hF6] at this
                  cases this
                refine ⟨t6, _, rfl, SqT.of q6, rfl, _, _, rfl, _, rfl, _, rfl, F, _, rfl, dputI (f := wyV) hF6 here (t5, wordP r.1, sp0) (by omega), _, _, rfl, rfl, ?_⟩
                dsimp only [gName, List.set]
                rw [ePut]
                refine ⟨_, _, putA wj here (wordP r.1, sp0), rfl, sameOut (sz.trans s56) gyF, by rw [upd_ne nF]; exact s56 _ _ htz, ⟨_, upd_same, fun q m => ?_, ?_⟩, ?_, ej⟩
                · rcases List.mem_append.mp m with m | m
                  · exact sq_dk hF6 (sameT s56 (twj q m))
                  · rw [List.mem_singleton.mp m]
                    exact sq_dk hF6 (SqT.of q5)
                · rw [putA_fresh fr, List.map_append, ewj]
                  rfl
                · rw [putA_fresh fr, List.length_append, List.length_singleton]
                  omega
          · rintro σ Hz ⟨o9, here, wj, rfl, sz, htz, Wj, lwj, ej⟩
            rw [List.length_map, List.drop_length] at ej
            have ej : layF (wordP r.1) wp one row = some wj := ej
            exact fin2 _ _ ⟨_, _, _, rfl, sz, by rw [ej]; exact ⟨F, rfl, Wj⟩⟩
        · rintro σ Hz ⟨o9, o13, u, rfl, sz, hu2⟩
          cases e : layF (wordP r.1) wp one row with
          | none =>
            rw [e] at hu2
            refine ⟨_, rfl, rfl, _, rfl, ?_⟩
            rw [hu2]
            refine if_no rfl ⟨_, _, _, _, _, rfl, ?_⟩
            rw [tk, List.filterMap_append, show [row].filterMap (layF (wordP r.1) wp one) = [] by simp [e], List.append_nil]
            exact wys_keep sz Ry
          | some wp' =>
            rw [e] at hu2
            obtain ⟨F2, eF, WF2⟩ := hu2
            refine ⟨_, rfl, rfl, _, rfl, ?_⟩
            rw [eF]
            obtain ⟨acc, a1, a2, a3⟩ := wys_add hg0 Ry sz WF2
            refine if_yes rfl ⟨_, rfl, .inl ⟨rfl, _, SqL.of a1⟩, _, rfl, g0, acc, V.ref F2, rfl, rfl, a1, by omega, _, _, _, _, _, rfl, ?_⟩
            rw [tk, List.filterMap_append, show [row].filterMap (layF (wordP r.1) wp one) = [wp'] by simp [e]]
            exact a3
      · rintro σ Hy ⟨o8, o9, o10, o12, o13, rfl, Ry⟩
        rw [List.length_map, lts, List.take_length] at Ry
        exact ⟨_, rfl, k g0 Hy (s2.trans Ry.1) Ry.in_⟩
end
end L2.Hx

/-! All lots and arrows that come of a clause. -/
namespace L2.Hx
open PySem PySem.Spec PyProof.Rows
/-- what each home has -/
structure HmK (ns : List Str) (hm : Hm) : Prop where
  nd : (keysA hm).Nodup
  keys : ∀ a, a ∈ keysA hm ↔ a ∈ ("nil" : Str) :: ns
  nil : getA hm "nil" = some 0
theorem homes_k (ns : List Str) (nd : (("nil" : Str) :: ns).Nodup) : ∀ i, i ≤ ns.length → ∀ hm ∈ homesF (ns.take i), HmK (ns.take i) hm
  | 0, _ => fun hm m => by
    rw [List.take_zero] at m ⊢
    rw [List.mem_singleton.mp m]
    exact ⟨by decide +kernel, fun a => Iff.rfl, rfl⟩
  | i + 1, hi => fun hm m => by
    have hn := List.getElem?_eq_getElem (show i < ns.length by omega)
    generalize ns[i]'(by omega) = n at hn
    have tk : ns.take (i + 1) = ns.take i ++ [n] := by rw [List.take_add_one, hn]; rfl
    rw [homes_up ns hn] at m
    obtain ⟨z, mz, m⟩ := List.mem_flatMap.mp m
    obtain ⟨s, _, rfl⟩ := List.mem_map.mp m
    have h := homes_k ns nd i (by omega) z mz
    have nn : n ≠ "nil" := fun e => (List.nodup_cons.mp nd).1 (by rw [← e]; exact List.mem_of_getElem? hn)
    refine ⟨putA_nodup h.nd, fun a => ?_, by rw [get_putA, if_neg fun e => nn e.symm]; exact h.nil⟩
    rw [putA_keys, h.keys, tk, ← List.cons_append, List.mem_append, List.mem_singleton]
/-- the pictures that are there: all of them are right, and the own one is among them -/
structure PicsOk (hms : List Hm) (lk pt : List Row) (qs : List (Hm × Wp)) : Prop where
  ok : ∀ q ∈ qs, q.1 ∈ hms ∧ WpOk (3 * pt.length) q.2
  own : ∀ hm ∈ hms, looksF (hmv hm) lk = true → ∀ wp, (∀ sp, wp ∈ picF hm sp pt) → (hm, wp) ∈ qs
  len : qs.length ≤ 2197 * hms.length
def PcsIn (K : PySem.W.Frag) (Hx : Hp) (L : Addr) (qs : List (Hm × Wp)) : Prop := ∃ ts : List Addr, Hx L = some (.lst (ts.map V.ref)) ∧ Paired (fun (t : Addr) (q : Hm × Wp) => ∃ d e : Addr, SqT K Hx t [.ref d, .ref e] ∧ Hx d = some (hmT q.1) ∧ WyAt K Hx e q.2) ts qs
theorem PcsIn.mono {K : PySem.W.Frag} {Hx Hy : Hp} {L : Addr} {qs : List (Hm × Wp)} (s : Same Hx Hy) (R : PcsIn K Hx L qs) : PcsIn K Hy L qs := by
  obtain ⟨ts, h, p⟩ := R
  exact ⟨ts, s _ _ h, paired_mpL p fun t q ⟨d, e, a, b, c⟩ => ⟨d, e, sameT s a, s _ _ b, c.mono s⟩⟩
theorem pcs_both {K : PySem.W.Frag} {Hx : Hp} {A B : Addr} {r1 r2 : List (Hm × Wp)} (R1 : PcsIn K Hx A r1) (R2 : PcsIn K Hx B r2) : ∃ xs ys, Hx A = some (.lst xs) ∧ Hx B = some (.lst ys) ∧ xs.length = r1.length ∧ ys.length = r2.length ∧ ∀ L, Hx L = none → PcsIn K (upd Hx L (.lst (xs ++ ys))) L (r1 ++ r2) := by
  obtain ⟨ts, h1, p1⟩ := R1
  obtain ⟨us, h2, p2⟩ := R2
  refine ⟨_, _, h1, h2, by rw [List.length_map]; exact Paired.length p1, by rw [List.length_map]; exact Paired.length p2, fun L hL => ?_⟩
  have s := sameAdd (o := .lst (ts.map V.ref ++ us.map V.ref)) hL
  exact ⟨ts ++ us, by rw [upd_same, List.map_append], paired_append (paired_mpL p1 fun t q ⟨d, e, a, b, c⟩ => ⟨d, e, sameT s a, s _ _ b, c.mono s⟩) (paired_mpL p2 fun t q ⟨d, e, a, b, c⟩ => ⟨d, e, sameT s a, s _ _ b, c.mono s⟩)⟩
def PcsAt (K : PySem.W.Frag) (H0 Hx : Hp) (B : Addr) (qs : List (Hm × Wp)) : Prop := Same H0 Hx ∧ PcsIn K Hx B qs
theorem pcs_add {K : PySem.W.Frag} {H0 Hx Hy : Hp} {B : Addr} {qs : List (Hm × Wp)} (hB : H0 B = none) (R : PcsAt K H0 Hx B qs) (s : Same Hx Hy) {t d e : Addr} {q : Hm × Wp} (ht : SqT K Hy t [.ref d, .ref e]) (hd : Hy d = some (hmT q.1)) (he : WyAt K Hy e q.2) :
    ∃ acc, Hy B = some (.lst acc) ∧ acc.length = qs.length ∧ PcsAt K H0 (upd Hy B (.lst (acc ++ [.ref t]))) B (qs ++ [q]) := by
  obtain ⟨s0, ts, h, p⟩ := R
  have hy := s _ _ h
  have up : ∀ {z : Addr} {q : Hm × Wp}, (∃ d e : Addr, SqT K Hy z [.ref d, .ref e] ∧ Hy d = some (hmT q.1) ∧ WyAt K Hy e q.2) → ∃ d e : Addr, SqT K (upd Hy B (.lst (ts.map V.ref ++ [.ref t]))) z [.ref d, .ref e] ∧ (upd Hy B (.lst (ts.map V.ref ++ [.ref t]))) d = some (hmT q.1) ∧ WyAt K (upd Hy B (.lst (ts.map V.ref ++ [.ref t]))) e q.2 := fun ⟨d, e, a, b, ws, c1, c2, c3⟩ => by
    have n1 : d ≠ B := fun z => by rw [z, hy] at b; cases b
    have n2 : e ≠ B := fun z => by rw [z, hy] at c1; cases c1
    exact ⟨d, e, sq_lst hy a, by rw [upd_ne n1]; exact b, ws, by rw [upd_ne n2]; exact c1, fun q m => sq_lst hy (c2 q m), c3⟩
  refine ⟨ts.map V.ref, hy, by rw [List.length_map]; exact Paired.length p, sameOut (s0.trans s) hB, ts ++ [t], by rw [upd_same, List.map_append]; rfl, ?_⟩
  exact paired_snoc (paired_mpL p fun u q ⟨d, e, a, b, c⟩ => up ⟨d, e, sameT s a, s _ _ b, c.mono s⟩) (up ⟨d, e, ht, hd, he⟩)
theorem ePar {i j : Nat} {ta : TA} {D : Ends} {σ : St} {H : Hp} : tPar i j ta D σ H = ta σ H (fun vs H1 => ∃ v w, vs = [v, w] ∧ D.nx ((σ.set i (some v)).set j (some w)) H1) := rfl
def spPics (K : PySem.W.Frag) : Sp := fun vs H Q _ => ∃ (nt sa : Addr) (ns : List Str) (u : V) (lk pt : List Row) (G : Hp), vs = [.ref nt, .ref sa] ∧ SqT K H nt (ns.map V.str) ∧ SqT K H sa [u] ∧ Same G H ∧ Da K G u (clD lk pt) ∧ (("nil" : Str) :: ns).Nodup ∧ ns.length ≤ 3 ∧ pt.length ≤ 3 ∧ lk.length ≤ 4000 ∧
  (∀ r ∈ lk, TmOk ns r.2.1 ∧ TmOk ns r.2.2) ∧ (∀ r ∈ pt, TmOk ns r.2.1 ∧ TmOk ns r.2.2) ∧
  ∀ (L : Addr) (qs : List (Hm × Wp)) (H' : Hp), Same H H' → PcsIn K H' L qs → PicsOk (homesF ns) lk pt qs → Q (.ref L) H'
section
variable {P : Program} {w : World} {K : PySem.W.Frag} {mg : Str → Option Value} {base : Heap}
theorem D_l_pictures (T : Txt K mg) : Df P w K mg base 3 "_law_pictures" ["names", "saying"] (spPics K) := by
  have D_l_homes := D_l_homes (P := P) (w := w) (base := base) T
  have D_l_is_so := D_l_is_so (P := P) (w := w) (base := base) T
  have D_l_put_in := D_l_put_in (P := P) (w := w) (base := base) T
  obtain ⟨f, fd, S⟩ := T.d_l_pictures
  refine Df.mk' (k := 2) S sc_l_pictures (fun vs H Q E h => ?_) (fun cdv A outer s H vs Q E hgd hr h => ?_)
  · obtain ⟨nt, sa, ns, u, lk, pt, G, rfl, _⟩ := h
    rfl
  · obtain ⟨nt, sa, ns, u, lk, pt, G, rfl, snt, ssa, sm, du, nd, l3, lp3, llk, tlk, tpt, k⟩ := h
    have hu := hu_of hr
    have big : (5000 : Nat) ≤ sizeLine := by decide
    obtain ⟨ca, vl, vp, rfl, hT, h1, h2⟩ := cl_at du
    obtain ⟨la, xs, rfl, sqL, hlen, hA⟩ := rows_at h1
    obtain ⟨pa, ys, rfl, sqP, plen, pA⟩ := rows_at h2
    refine ⟨_, (pss_cons (ps_set (i := 2) sc_l_pictures.nd rfl (.inl rfl) (pe_lst pa_nil))
      (pss_cons (ps_for PassesOwn.never rfl (pi_tup (pv 1)) (pg_name (i := 3) sc_l_pictures.nd rfl (.inl rfl))
      (pss_one (ps_for PassesOwn.never rfl (pi_list (pe_d D_l_homes hgd hr (pa_cons (pv 0) pa_nil))) (pg_name (i := 4) sc_l_pictures.nd rfl (.inr rfl))
      (pss_cons (ps_if (pt_cmpR (op_neD hr.units) (pe_lc (X := (cxOf CX0 P w K mg base ["names", "saying", "got", "clause", "home", "look", "spots", "level", "part", "elder", "ways"] "_law_pictures" (defScope s_l_pictures) f cdv A outer s H E).nox) (own := [("look", 5)]) (tt := tNot (tB (tCall (spIsSo K) [] E0 (tCons (tVar 5) (tCons (tVar 4) tNil))))) (te := tC (.int 1)) (g := gName 5) rfl sc_l_pictures.nd (pi_tup (pe_ix ix_tup (pv 3) pe_int (fun _ _ => rfl))) (blkOk_by (own := [("look", 5)]) (N := ["names", "saying", "got", "clause", "home", "look", "spots", "level", "part", "elder", "ways"]) (sc := defScope s_l_pictures) (by decide +kernel)) (fun _ _ _ _ _ => pg_name (i := 5) sc_l_pictures.nd rfl (.inl rfl)) (fun _ _ _ _ _ => (pts_one (pt_not (pt_val (pe_d D_l_is_so hgd hr (pa_cons (pv 5) (pa_cons (pv 4) pa_nil))))))) (fun _ _ _ _ _ => pe_int)) (pe_lst pa_nil) (nomark _)) (pss_one ps_continue) pss_nil)
      (pss_cons (ps_par (i := 6) (j := 7) (by rfl) sc_l_pictures.nd rfl rfl (by decide) rfl rfl (pa_cons (pe_callB (cr_sortedSet rfl) (by rfl) T.b_sorted (by decide +kernel) (pa_cons (pe_callTy (cr_setOfI rfl) (by rfl) T.b_set (by decide +kernel) (pa_cons (pe_listVals rfl (pv 4) (by rfl) T.b_list rfl) pa_nil)) pa_nil)) (pa_cons (pe_lst (pa_cons pe_dnewK pa_nil)) pa_nil)) (by rfl))
      (pss_cons (ps_for PassesOwn.never rfl (pi_tup (pe_ix ix_tup (pv 3) pe_int (fun _ _ => rfl))) (pg_name (i := 8) sc_l_pictures.nd rfl (.inl rfl))
      (pss_cons (ps_par (i := 9) (j := 7) (by rfl) sc_l_pictures.nd rfl rfl (by decide) rfl rfl (pa_cons (pv 7) (pa_cons (pe_lst pa_nil) pa_nil)) (by rfl))
      (pss_one (ps_for PassesOwn.never rfl (pi_list (pv 9)) (pg_name (i := 10) sc_l_pictures.nd rfl (.inl rfl))
      (pss_one (ps_set (i := 7) sc_l_pictures.nd rfl (.inl rfl) (pe_op op_cat (pv 7) (pe_d D_l_put_in hgd hr (pa_cons (pv 4) (pa_cons (pv 10) (pa_cons (pv 8) (pa_cons (pv 6) pa_nil))))))))))))
      (pss_one (ps_set (i := 2) sc_l_pictures.nd rfl (.inl rfl) (pe_op op_cat (pv 2) (pe_lc (X := (cxOf CX0 P w K mg base ["names", "saying", "got", "clause", "home", "look", "spots", "level", "part", "elder", "ways"] "_law_pictures" (defScope s_l_pictures) f cdv A outer s H E).nox) (own := [("ways", 10)]) (te := tTup (tCons (tVar 4) (tCons (tVar 10) tNil))) (g := gName 10) (tt := tYes) rfl sc_l_pictures.nd (pi_list (pv 7)) (blkOk_by (own := [("ways", 10)]) (N := ["names", "saying", "got", "clause", "home", "look", "spots", "level", "part", "elder", "ways"]) (sc := defScope s_l_pictures) (by decide +kernel)) (fun _ _ _ _ _ => pg_name (i := 10) sc_l_pictures.nd rfl (.inl rfl)) (fun _ _ _ _ _ => pts_nil) (fun _ _ _ _ _ => (pe_tup (pa_cons (pv 4) (pa_cons (pv 10) pa_nil))))))))))))))
      (pss_one (ps_ret (pv 2))))), ?_⟩
    refine ⟨by show 0 ≤ sizeLine; exact Nat.zero_le _, fun g0 hg0 => ?_⟩
    dsimp only [gName, List.set]
    have s0 := sameAdd (o := .lst []) hg0
    have g00 : (upd H g0 (.lst [])) g0 = some (.lst (([] : List Addr).map V.ref)) := upd_same
    generalize upd H g0 (.lst []) = H1 at s0 g00 ⊢
    refine ⟨_, rfl, sa, rfl, ⟨_, sameT s0 ssa⟩, for_tup (K := K) (a := sa) (xs := [.ref ca]) (fun n σ Hx => Same H Hx ∧ (n = 0 → σ = [some (.ref nt), some (.ref sa), some (.ref g0), none, none, none, none, none, none, none, none] ∧ Hx g0 = some (.lst [])) ∧
        (0 < n → ∃ (L : Addr) (o3 o4 o5 o6 o7 o8 o9 o10 : Option V) (qs : List (Hm × Wp)), σ = [some (.ref nt), some (.ref sa), some (.ref L), o3, o4, o5, o6, o7, o8, o9, o10] ∧ PcsIn K Hx L qs ∧ PicsOk (homesF ns) lk pt qs)) ⟨s0, fun _ => ⟨rfl, g00⟩, fun z => absurd z (Nat.lt_irrefl _)⟩ (fun n σ Hx _ h => sameT h.1 ssa) ?_ ?_⟩
    · rintro n x σ Hx hx ⟨sx, h0, _⟩
      have n0 : n = 0 := by
        have := (List.getElem?_eq_some_iff.mp hx).1
        simp at this
        exact this
      subst n0
      cases hx
      obtain ⟨rfl, gx⟩ := h0 rfl
      dsimp only [gName, List.set]
      refine ⟨_, rfl, nt, ns, rfl, sameT sx snt, l3, fun Lh ds H2 s2 hLh pds => ?_⟩
      refine ⟨Lh, rfl, ⟨_, SqL.of hLh⟩, for_list (K := K) (a := Lh) (xs := ds.map V.ref) (fun i σ Hy => ∃ (L : Addr) (o4 o5 o6 o7 o8 o9 o10 : Option V) (qs : List (Hm × Wp)), σ = [some (.ref nt), some (.ref sa), some (.ref L), some (.ref ca), o4, o5, o6, o7, o8, o9, o10] ∧ Same H2 Hy ∧ PcsIn K Hy L qs ∧ PicsOk ((homesF ns).take i) lk pt qs)
        ⟨g0, _, _, _, _, _, _, _, [], rfl, Same.refl _, ⟨[], s2 _ _ gx, .nil⟩, ⟨fun q m => absurd m List.not_mem_nil, fun hm m => absurd m List.not_mem_nil, Nat.zero_le _⟩⟩ (fun i σ Hy _ ⟨_, _, _, _, _, _, _, _, _, _, s, _⟩ => SqL.of (s _ _ hLh)) ?_ ?_⟩
      · rintro i y σ Hy hy ⟨L, o4, o5, o6, o7, o8, o9, o10, qs, rfl, sy, Rq, ok⟩
        rw [List.getElem?_map] at hy
        obtain ⟨d, hd, rfl⟩ := Option.map_eq_some_iff.mp hy
        obtain ⟨hm, hhm, hdd⟩ := paired_at pds hd
        have mhm := List.mem_of_getElem? hhm
        have tk : (homesF ns).take (i + 1) = (homesF ns).take i ++ [hm] := by rw [List.take_add_one, hhm]; rfl
        have K1 := homes_k ns nd ns.length (Nat.le_refl _) hm (by rw [List.take_length]; exact mhm)
        rw [List.take_length] at K1
        have B1 := homes_ok ns ns.length (Nat.le_refl _) hm (by rw [List.take_length]; exact mhm)
        have gv : ∀ t, TmOk ns t → getA hm t = some (hmv hm t) ∧ hmv hm t ∈ hm.map Prod.snd := fun t ht => by
          obtain ⟨v, g, mv⟩ := getA_in ((K1.keys t).mpr (trm_mem.mp ht))
          have e : hmv hm t = v := by
            unfold hmv
            rw [g]
            rfl
          exact ⟨by rw [g, e], by rw [e]; exact List.mem_map.mpr ⟨_, mv, rfl⟩⟩
        have s12 := sx.trans s2
        have dy := sy _ _ hdd
        dsimp only [gName, List.set]
        refine ⟨_, rfl, ca, _, 0, _, rfl, rfl, sameT (sm.trans (s12.trans sy)) hT, rfl, la, rfl, ⟨_, sameT (sm.trans (s12.trans sy)) sqL⟩, fun D hD => lc_tup (K := K) (a := la) (xs := xs) (fun i Hz => Same Hy Hz ∧ ∃ n : Nat, Hz D = some (.lst ((List.replicate n (1 : Int)).map V.int)) ∧ n ≤ i ∧ (n = 0 ↔ looksF (hmv hm) (lk.take i) = true))
          ⟨sameAdd hD, 0, upd_same, Nat.le_refl _, ⟨fun _ => rfl, fun _ => rfl⟩⟩ (fun i Hz _ h => sameT ((sm.trans (s12.trans sy)).trans h.1) sqL) ?_ ?_⟩
        · rintro j x Hz hx ⟨sz, n, lz, nle, iff⟩
          obtain ⟨r, t, hr1, rfl, tT⟩ := hA j x hx
          have il := (List.getElem?_eq_some_iff.mp hr1).1
          have mr := List.mem_of_getElem? hr1
          have tk2 : lk.take (j + 1) = lk.take j ++ [r] := by rw [List.take_add_one, hr1]; rfl
          have ea : looksF (hmv hm) (lk.take (j + 1)) = (looksF (hmv hm) (lk.take j) && lookF (hmv hm) r) := by
            rw [tk2]
            unfold looksF
            rw [List.all_append, List.all_cons, List.all_nil, Bool.and_true]
          refine ⟨rfl, _, rfl, _, rfl, .ref t, d, r, hm, hmv hm, G, rfl, (sm.trans (s12.trans sy)).trans sz, .tup tT (.cons (.str _) (.cons (.str _) (.cons (.str _) .nil))), sz _ _ dy, ⟨(gv _ (tlk r mr).1).1, (gv _ (tlk r mr).2).1⟩, _, rfl, iteNot (fun hb => ?_) (fun hb => ?_)⟩
          · refine ⟨_, lz, by rw [List.length_map, List.length_replicate]; omega, sameOut sz hD, n + 1, ?_, by omega, ?_⟩
            · rw [upd_same, List.replicate_succ', List.map_append]
              rfl
            · rw [ea, hb, Bool.and_false]
              exact ⟨fun z => absurd z (Nat.succ_ne_zero n), fun z => absurd z Bool.false_ne_true⟩
          · refine ⟨sz, n, lz, Nat.le_succ_of_le nle, ?_⟩
            rw [ea, hb, Bool.and_true]
            exact iff
        rintro Hz ⟨sz, n, lz, nle, iff⟩
        rw [hlen, List.take_length] at iff
        refine ⟨Nat.zero_le _, fun z0 hz0 => ?_⟩
        have sz2 := sz.trans (sameAdd (o := .lst []) hz0)
        have lz2 := sameAdd (o := .lst []) hz0 _ _ lz
        have zz : (upd Hz z0 (.lst [])) z0 = some (.lst []) := upd_same
        generalize upd Hz z0 (.lst []) = H3 at sz2 lz2 zz ⊢
        clear sz lz hz0 hD
        refine ⟨.list ((List.replicate n (1 : Int)).map PyData.int), .list [], .lst (SqL.of lz2) (dp_ints _), .lst (SqL.of zz) .nil, shaped_ints _, rfl, _, rfl, ?_⟩
        rw [eqv_nil]
        refine iteNot (fun hz => ?_) (fun hz => ?_)
        · have nz : ¬ looksF (hmv hm) lk = true := fun z => by
            rw [iff.mpr z] at hz
            cases hz
          refine ⟨L, _, _, _, _, _, _, _, qs, rfl, sy.trans sz2, Rq.mono sz2, ⟨fun q m => ?_, fun h m hl => ?_, ?_⟩⟩
          · rw [tk]
            exact ⟨List.mem_append_left _ (ok.ok q m).1, (ok.ok q m).2⟩
          · rw [tk] at m
            rcases List.mem_append.mp m with m | m
            · exact ok.own h m hl
            · rw [List.mem_singleton.mp m] at hl
              exact absurd hl nz
          · rw [tk, List.length_append, List.length_singleton]
            have := ok.len
            omega
        clear iff hz nle lz2 zz n
        have sy3 := sy.trans sz2
        have d3 := sz2 _ _ dy
        have Rq3 := Rq.mono sz2
        clear dy Rq sz2
        have ev : (kvK Sum.inr V.int hm).map Prod.snd = (hm.map Prod.snd).map V.int := by unfold kvK; rw [List.map_map, List.map_map]; rfl
        have lhm := B1.len
        dsimp only [tNext]
        rw [eSeq, ePar]
        refine cons_by (I := fun v H5 => ∃ (S : Addr) (sp : List Int), v = .ref S ∧ Same H3 H5 ∧ H5 S = some (.lst (sp.map V.int)) ∧ sp.Nodup ∧ sp.length ≤ 4 ∧ ∀ t, TmOk ns t → hmv hm t ∈ sp) (fun Q' kq => ?_) ?_
        · refine ⟨_, rfl, d, _, rfl, d3, fun q hq => ?_⟩
          rw [ev]
          have s4 := sameAdd (o := .lst ((hm.map Prod.snd).map V.int)) hq
          have q4 : (upd H3 q (.lst ((hm.map Prod.snd).map V.int))) q = some (.lst ((hm.map Prod.snd).map V.int)) := upd_same
          generalize upd H3 q (.lst ((hm.map Prod.snd).map V.int)) = H4 at s4 q4 ⊢
          refine ⟨q, hm.map Prod.snd, rfl, SqL.of q4, by rw [List.length_map]; unfold scanBound; omega, fun z n hz hn => ?_⟩
          rw [List.length_map] at hn
          refine ⟨z, _, n, rfl, upd_same, by omega, fun sp S pw mem lsp hS => ?_⟩
          have nds : sp.Nodup := List.nodup_iff_pairwise_ne.mpr (pw.imp fun h e => by omega)
          have sub : ∀ x ∈ sp, x ∈ ([0, 1, 2, 3] : List Int) := fun x m => by
            obtain ⟨p, mp, rfl⟩ := List.mem_map.mp (of_decide_eq_true ((mem x).mp m))
            have := B1.val p mp
            have c : p.2 = 0 ∨ p.2 = 1 ∨ p.2 = 2 ∨ p.2 = 3 := by omega
            rcases c with c | c | c | c <;> rw [c] <;> simp
          exact kq _ _ ⟨S, sp, rfl, (s4.trans (sameAdd hz)).trans (sameAdd hS), upd_same, nds, once_len ⟨nds, sub⟩, fun t ht => (mem _).mpr (decide_eq_true (gv t ht).2)⟩
        rintro v H5 ⟨S, sp, rfl, s5, S5, nds, l4, msp⟩
        have btk : ∀ r ∈ pt, BtOk sp (hmv hm r.2.1) (hmv hm r.2.2) := fun r m => by
          have h0 := msp "nil" (.inl rfl)
          have e0 : hmv hm "nil" = 0 := by
            unfold hmv
            rw [K1.nil]
            rfl
          rw [e0] at h0
          exact bt_ok l4 h0 (msp _ (tpt r m).1) (msp _ (tpt r m).2) nds
        have pok : ∀ j, (∀ x ∈ picF hm sp (pt.take j), WpOk (3 * (pt.take j).length) x) ∧ (picF hm sp (pt.take j)).length ≤ 13 ^ (pt.take j).length := fun j => pic_ok _ (pt.take j) (Nat.le_refl _) fun r m => btk r (List.mem_of_mem_take m)
        have lpw : ∀ j, 13 ^ (pt.take j).length ≤ 2197 := fun j => by
          have : (pt.take j).length ≤ 3 := by rw [List.length_take]; omega
          exact Nat.le_trans (Nat.pow_le_pow_right (by decide) this) (by decide)
        refine fun e0 he0 => ⟨by show 1 ≤ sizeLine; decide, fun l0 hl0 => ⟨_, _, rfl, ?_⟩⟩
        dsimp only [gName, List.set]
        have s6 : Same H3 (upd (upd H5 e0 (.dK [])) l0 (.lst [V.ref e0])) := s5.trans ((sameAdd he0).trans (sameAdd hl0))
        have S6 := ((sameAdd (o := .dK []) he0).trans (sameAdd (o := .lst [V.ref e0]) hl0)) _ _ S5
        have L6 : WysIn K (upd (upd H5 e0 (.dK [])) l0 (.lst [V.ref e0])) l0 (picF hm sp (pt.take 0)) := ⟨[e0], upd_same, .cons ⟨[], (sameAdd hl0) _ _ upd_same, fun q m => absurd m List.not_mem_nil, rfl⟩ .nil⟩
        generalize upd (upd H5 e0 (.dK [])) l0 (.lst [V.ref e0]) = H6 at s6 S6 L6 ⊢
        clear s5 S5 he0 hl0
        have s36 := sy3.trans s6
        refine ⟨_, rfl, ca, _, 1, _, rfl, rfl, sameT (sm.trans (s12.trans s36)) hT, rfl, pa, rfl, ⟨_, sameT (sm.trans (s12.trans s36)) sqP⟩, for_tup (K := K) (a := pa) (xs := ys) (fun j σ Hz => ∃ (Lv : Addr) (o5 o8 o9 o10 : Option V), σ = [some (.ref nt), some (.ref sa), some (.ref L), some (.ref ca), some (.ref d), o5, some (.ref S), some (.ref Lv), o8, o9, o10] ∧ Same H6 Hz ∧ WysIn K Hz Lv (picF hm sp (pt.take j)))
          ⟨l0, _, _, _, _, rfl, Same.refl _, L6⟩ (fun j σ Hz _ ⟨_, _, _, _, _, _, h, _⟩ => sameT (sm.trans (s12.trans (s36.trans h))) sqP) ?_ ?_⟩
        · rintro j x Hσ Hz hx ⟨Lv, o5, o8, o9, o10, rfl, sz, RL⟩
          obtain ⟨r, t, hr1, rfl, tT⟩ := pA j x hx
          have mr := List.mem_of_getElem? hr1
          have tk2 : pt.take (j + 1) = pt.take j ++ [r] := by rw [List.take_add_one, hr1]; rfl
          obtain ⟨es, hLv, pes⟩ := RL
          have les : es.length = (picF hm sp (pt.take j)).length := Paired.length pes
          dsimp only [gName, List.set]
          refine ⟨_, rfl, by show 0 ≤ sizeLine; exact Nat.zero_le _, fun g2 hg2 => ⟨_, _, rfl, ?_⟩⟩
          dsimp only [gName, List.set]
          have s7 := sz.trans (sameAdd (o := .lst []) hg2)
          have hLv7 := sameAdd (o := .lst []) hg2 _ _ hLv
          have pes7 := paired_mpL pes fun u q h => h.mono (sameAdd (o := .lst []) hg2)
          have g27 : WysIn K (upd Hz g2 (.lst [])) g2 [] := ⟨[], upd_same, .nil⟩
          generalize upd Hz g2 (.lst []) = H7 at s7 hLv7 pes7 g27 ⊢
          clear sz hLv pes hg2
          refine ⟨_, rfl, Lv, rfl, ⟨_, SqL.of hLv7⟩, for_list (K := K) (a := Lv) (xs := es.map V.ref) (fun m σ Hw => ∃ (Lm : Addr) (o10 : Option V), σ = [some (.ref nt), some (.ref sa), some (.ref L), some (.ref ca), some (.ref d), o5, some (.ref S), some (.ref Lm), some (.ref t), some (.ref Lv), o10] ∧ Same H7 Hw ∧ WysIn K Hw Lm (((picF hm sp (pt.take j)).take m).flatMap (putF r.1 (hmv hm r.2.1) (hmv hm r.2.2) sp)))
            ⟨g2, _, rfl, Same.refl _, g27⟩ (fun m σ Hw _ ⟨_, _, _, h, _⟩ => SqL.of (h _ _ hLv7)) ?_ ?_⟩
          · rintro m y Hσ Hw hy ⟨Lm, o10, rfl, sw, Rm⟩
            rw [List.getElem?_map] at hy
            obtain ⟨wd, hwd, rfl⟩ := Option.map_eq_some_iff.mp hy
            obtain ⟨wp, hwp, WW⟩ := paired_at pes7 hwd
            have mwp := List.mem_of_getElem? hwp
            have tk3 : (picF hm sp (pt.take j)).take (m + 1) = (picF hm sp (pt.take j)).take m ++ [wp] := by rw [List.take_add_one, hwp]; rfl
            have wok := (pok j).1 wp mwp
            have lpj : (pt.take j).length ≤ 3 := by rw [List.length_take]; omega
            have sW := s36.trans (s7.trans sw)
            dsimp only [gName, List.set]
            refine ⟨_, rfl, _, rfl, _, rfl, _, rfl, _, rfl, d, wd, S, .ref t, hm, wp, r, sp, _, _, G, rfl, (s6.trans (s7.trans sw)) _ _ d3, WW.mono sw, sm.trans (s12.trans sW), .tup tT (.cons (.str _) (.cons (.str _) (.cons (.str _) .nil))), SqL.of ((s7.trans sw) _ _ S6), (gv _ (tpt r mr).1).1, (gv _ (tpt r mr).2).1, l4, btk r mr, by have := wok.len; omega, fun Lp H8 s8 R8 => ?_⟩
            obtain ⟨xs9, ys9, x1, x2, x3, x4, x5⟩ := wys_both (Rm.mono s8) R8
            refine ⟨Lm, Lp, xs9, ys9, rfl, rfl, x1, x2, ?_, fun L9 hL9 => ?_⟩
            · have h1 := flat_len (f := putF r.1 (hmv hm r.2.1) (hmv hm r.2.2) sp) (m := 13) (L := (picF hm sp (pt.take j)).take m) fun x _ => putF_len (btk r mr)
              have h2 : ((picF hm sp (pt.take j)).take m).length ≤ 2197 := by
                rw [List.length_take]
                have := (pok j).2
                have := lpw j
                omega
              have h3 : (putF r.1 (hmv hm r.2.1) (hmv hm r.2.2) sp wp).length ≤ 13 := putF_len (btk r mr)
              have h4 : (30000 : Nat) ≤ sizeLine := by decide
              omega
            · have s9 := sameAdd (o := .lst (xs9 ++ ys9)) hL9
              refine ⟨L9, _, rfl, sw.trans (s8.trans s9), ?_⟩
              rw [tk3, List.flatMap_append, List.flatMap_singleton]
              exact x5 L9 hL9
          · rintro Hσ Hw ⟨Lm, o10, rfl, sw, Rm⟩
            rw [List.length_map, les, List.take_length] at Rm
            refine ⟨Lm, _, _, _, _, rfl, s7.trans sw, ?_⟩
            rw [tk2, picF_snoc]
            exact Rm
        · rintro Hσ Hz ⟨Lv, o5, o8, o9, o10, rfl, sz, RL⟩
          rw [plen, List.take_length] at RL
          obtain ⟨es, hLv, pes⟩ := RL
          have les : es.length = (picF hm sp pt).length := Paired.length pes
          have pk := pok pt.length
          rw [List.take_length] at pk
          have lpk : (picF hm sp pt).length ≤ 2197 := by
            have := lpw pt.length
            rw [List.take_length] at this
            omega
          refine ⟨_, rfl, _, rfl, Lv, rfl, ⟨_, SqL.of hLv⟩, fun D hD => lc_list (K := K) (a := Lv) (xs := es.map V.ref) (fun m Hw => PcsAt K Hz Hw D (((picF hm sp pt).take m).map fun wp => (hm, wp))) ⟨sameAdd hD, [], upd_same, .nil⟩ (fun m Hw _ h => SqL.of (h.1 _ _ hLv)) ?_ ?_⟩
          · rintro m y Hw hy Rw
            rw [List.getElem?_map] at hy
            obtain ⟨wd, hwd, rfl⟩ := Option.map_eq_some_iff.mp hy
            obtain ⟨wp, hwp, WW⟩ := paired_at pes hwd
            have tk3 : (picF hm sp pt).take (m + 1) = (picF hm sp pt).take m ++ [wp] := by rw [List.take_add_one, hwp]; rfl
            refine ⟨rfl, _, rfl, _, rfl, by show 2 ≤ sizeLine; decide, fun t2 ht2 => ?_⟩
            have s9 := sameAdd (o := .tup [V.ref d, V.ref wd]) ht2
            obtain ⟨acc, a1, a2, a3⟩ := pcs_add (q := (hm, wp)) hD Rw s9 (SqT.of upd_same) ((s6.trans (sz.trans (Rw.1.trans s9))) _ _ d3) (WW.mono (Rw.1.trans s9))
            rw [List.length_map, List.length_take] at a2
            refine ⟨acc, a1, by omega, ?_⟩
            rw [tk3, List.map_append]
            exact a3
          · rintro Hw Rw
            rw [List.length_map, les, List.take_length] at Rw
            have sW := sz.trans Rw.1
            obtain ⟨xs9, ys9, x1, x2, x3, x4, x5⟩ := pcs_both (Rq3.mono (s6.trans sW)) Rw.2
            have il := (List.getElem?_eq_some_iff.mp hhm).1
            have lh := homes_len ns l3 ns.length (Nat.le_refl _)
            rw [List.take_length] at lh
            have lh2 : 5 ^ ns.length ≤ 125 := Nat.le_trans (Nat.pow_le_pow_right (by decide) l3) (by decide)
            refine ⟨L, D, xs9, ys9, rfl, rfl, x1, x2, ?_, fun L9 hL9 => ?_⟩
            · have := ok.len
              rw [List.length_take] at this
              rw [List.length_map] at x4
              have h4 : (300000 : Nat) ≤ sizeLine := by decide
              omega
            · have s9 := sameAdd (o := .lst (xs9 ++ ys9)) hL9
              refine ⟨L9, _, _, _, _, _, _, _, _, rfl, s36.trans (sW.trans s9), x5 L9 hL9, ⟨fun q m => ?_, fun h m hl wp hw => ?_, ?_⟩⟩
              · rw [tk]
                rcases List.mem_append.mp m with m | m
                · exact ⟨List.mem_append_left _ (ok.ok q m).1, (ok.ok q m).2⟩
                · obtain ⟨wp, mw, rfl⟩ := List.mem_map.mp m
                  exact ⟨List.mem_append_right _ List.mem_cons_self, pk.1 wp mw⟩
              · rw [tk] at m
                rcases List.mem_append.mp m with m | m
                · exact List.mem_append_left _ (ok.own h m hl wp hw)
                · rw [List.mem_singleton.mp m]
                  rw [List.mem_singleton.mp m] at hw
                  exact List.mem_append_right _ (List.mem_map.mpr ⟨wp, hw sp, rfl⟩)
              · rw [tk, List.length_append, List.length_append, List.length_singleton, List.length_map]
                have := ok.len
                omega
      · rintro σ Hy ⟨L, o4, o5, o6, o7, o8, o9, o10, qs, rfl, sy, Rq, ok⟩
        rw [List.length_map, Paired.length pds, List.take_length] at ok
        exact ⟨sx.trans (s2.trans sy), fun z => absurd z (Nat.succ_ne_zero 0), fun _ => ⟨L, _, _, _, _, _, _, _, _, qs, rfl, Rq, ok⟩⟩
    · rintro σ Hx ⟨sx, _, h1⟩
      obtain ⟨L, o3, o4, o5, o6, o7, o8, o9, o10, qs, rfl, Rq, ok⟩ := h1 Nat.zero_lt_one
      exact ⟨_, rfl, k L qs Hx sx Rq ok⟩
end
end L2.Hx

/-! Sizes of what is told; what lies along a case is true of its heaps. -/
namespace L2.Hx
open PySem PySem.Spec PyProof.Rows
theorem int_ok {i : Int} (h : i.natAbs < 2 ^ 7) : Okd 0 1921 (.int i) := ⟨by
  rw [okB]
  exact decide_eq_true (Nat.lt_trans (PySem.Flt.log2_lt_of (by decide) h) (by decide)), Nat.zero_le _, Nat.le_refl _⟩
theorem word_ok : ∀ z ∈ (["short", "long", "is", "isnt", "cell", "list", "nil"] : List Str), Okd 0 100 (.str z) := by
  have h : ((["short", "long", "is", "isnt", "cell", "list", "nil"] : List Str).all fun z => okB (.str z) && decide (siz (.str z) ≤ 100)) = true := by decide +kernel
  rw [List.all_eq_true] at h
  intro z m
  have q := h z m
  rw [Bool.and_eq_true] at q
  exact ⟨q.1, Nat.zero_le _, of_decide_eq_true q.2⟩
theorem ar_okd {ns : List Str} {c : Cs} (h : CaseOk ns c) {q : Ar} (m : q ∈ c.2) : Okd 1 5772 (arD q) := by
  have a := h.ar q m
  have l60 := h.len
  refine Okd.tup (k := 0) (n := 1921) (m := 3) (fun d m => ?_) (Nat.le_refl 3)
  rcases List.mem_cons.mp m with rfl | m
  · exact int_ok (by omega)
  · rcases List.mem_cons.mp m with rfl | m
    · exact (word_ok _ (by rcases a.2.2.1 with e | e <;> rw [e] <;> simp)).mono
    · rw [List.mem_singleton.mp m]
      exact int_ok (by omega)
theorem ars_okd {ns : List Str} {c : Cs} (h : CaseOk ns c) (p : Ar → Bool) : Okd 2 230963 (.tuple ((c.2.filter p).map arD)) := by
  refine Okd.tup (k := 1) (n := 5772) (m := 40) (fun d m => ?_) (by rw [List.length_map]; exact Nat.le_trans (List.length_filter_le _ _) h.alen)
  obtain ⟨q, mq, rfl⟩ := List.mem_map.mp m
  exact ar_okd h (List.mem_filter.mp mq).1
theorem case_okd {ns : List Str} {c : Cs} (hn : NamesOk ns) (h : CaseOk ns c) : Okd 4 1000000 (caseD c) := by
  have mem : ∀ l ∈ c.1, ∀ z ∈ l, z ∈ ns := fun l m z mz => h.perm.mem_iff.mp (List.mem_flatten.mpr ⟨l, m, mz⟩)
  have l8 : ∀ l ∈ c.1, l.length ≤ 8 := fun l m => by
    have h1 := (List.sublist_flatten_of_mem m).length_le
    have h2 := h.perm.length_eq
    have h3 := hn.len
    omega
  refine Okd.mono (k := 3) (n := 461935) (Okd.tup (k := 2) (n := 230964) (m := 2) (fun d m => ?_) (Nat.le_refl 2))
  rcases List.mem_cons.mp m with rfl | m
  · refine Okd.mono (Okd.tup (k := 1) (n := 819) (m := 60) (N := 49263) (fun d m => ?_) (by rw [List.length_map]; exact h.len))
    obtain ⟨l, ml, rfl⟩ := List.mem_map.mp m
    refine Okd.tup (k := 0) (n := 100) (m := 8) (fun d m => ?_) (by rw [List.length_map]; exact l8 l ml)
    obtain ⟨z, mz, rfl⟩ := List.mem_map.mp m
    exact lets_ok z (hn.sub z (mem l ml z mz))
  · rw [List.mem_singleton.mp m]
    have := ars_okd h (fun _ => true)
    rw [List.filter_eq_self.mpr (fun _ _ => rfl)] at this
    exact this.mono
def RowW (ns : List Str) (r : Row) : Prop := (r.1 = "is" ∨ r.1 = "isnt" ∨ r.1 = "cell" ∨ r.1 = "list") ∧ TmOk ns r.2.1 ∧ TmOk ns r.2.2
theorem row_okd {ns : List Str} {r : Row} (hn : NamesOk ns) (h : RowW ns r) : Okd 1 309 (lrowD r) := by
  have tr : ∀ t, TmOk ns t → Okd 0 100 (.str t) := fun t ht => by
    rcases ht with e | m
    · rw [e]
      exact word_ok _ (by simp)
    · exact lets_ok t (hn.sub t m)
  refine Okd.tup (k := 0) (n := 100) (m := 3) (fun d m => ?_) (Nat.le_refl 3)
  rcases List.mem_cons.mp m with rfl | m
  · exact word_ok _ (by rcases h.1 with e | e | e | e <;> rw [e] <;> simp)
  · rcases List.mem_cons.mp m with rfl | m
    · exact tr _ h.2.1
    · rw [List.mem_singleton.mp m]
      exact tr _ h.2.2
theorem rows_okd {ns : List Str} {rs : List Row} (hn : NamesOk ns) (h : ∀ r ∈ rs, RowW ns r) (hl : rs.length ≤ 250) : Okd 2 77753 (.tuple (rs.map lrowD)) := by
  refine Okd.tup (k := 1) (n := 309) (m := 250) (fun d m => ?_) (by rw [List.length_map]; exact hl)
  obtain ⟨r, mr, rfl⟩ := List.mem_map.mp m
  exact row_okd hn (h r mr)
theorem cl_okd {ns : List Str} {lk pt : List Row} (hn : NamesOk ns) (h1 : ∀ r ∈ lk, RowW ns r) (h2 : ∀ r ∈ pt, RowW ns r) (l1 : lk.length ≤ 250) (l2 : pt.length ≤ 250) : Okd 3 155513 (clD lk pt) := by
  refine Okd.tup (k := 2) (n := 77753) (m := 2) (fun d m => ?_) (Nat.le_refl 2)
  rcases List.mem_cons.mp m with rfl | m
  · exact rows_okd hn h1 l1
  · rw [List.mem_singleton.mp m]
    exact rows_okd hn h2 l2
abbrev namesD (ns : List Str) : PyData := .tuple (ns.map .str)
theorem names_okd {ns : List Str} (h : NamesOk ns) : Okd 1 819 (namesD ns) := by
  refine Okd.tup (k := 0) (n := 100) (m := 8) (fun d m => ?_) (by rw [List.length_map]; exact h.len)
  obtain ⟨z, mz, rfl⟩ := List.mem_map.mp m
  exact lets_ok z (h.sub z mz)
theorem both_okd {ns : List Str} {c : Cs} (hn : NamesOk ns) (h : CaseOk ns c) : Okd 5 2000007 (.list [namesD ns, caseD c]) := by
  refine Okd.list (k := 4) (n := 1000000) (m := 2) (fun d m => ?_) (Nat.le_refl 2)
  rcases List.mem_cons.mp m with rfl | m
  · exact (names_okd hn).mono
  · rw [List.mem_singleton.mp m]
    exact case_okd hn h
theorem told_word : Okd 3 155513 (.str "told") ∧ Okd 3 155513 (.str "unfit") ∧ Okd 3 155513 (.bool true) := by
  refine ⟨Okd.mono (k := 0) (n := 1921) ⟨by decide +kernel, Nat.zero_le _, by decide +kernel⟩, Okd.mono (k := 0) (n := 1921) ⟨by decide +kernel, Nat.zero_le _, by decide +kernel⟩, Okd.mono (k := 0) (n := 1921) ⟨rfl, Nat.zero_le _, by decide⟩⟩
section
variable {ns : List Str} {c : Cs}
/-- a case without nameless lots is small -/
theorem few_lots (ok : CaseOk ns c) (hB : ¬ Bare c) : c.1.length ≤ ns.length + 1 := by
  have key : ∀ ls : List (List Str), (∀ l ∈ ls, l ≠ []) → ls.length ≤ ls.flatten.length := fun ls => by
    induction ls with
    | nil => intro _; exact Nat.le_refl _
    | cons l ls ih =>
      intro h
      have h1 := ih fun x m => h x (List.mem_cons_of_mem _ m)
      have h2 := List.length_pos_iff.mpr (h l List.mem_cons_self)
      rw [List.flatten_cons, List.length_append, List.length_cons]
      omega
  have h1 := key (c.1.drop 1) fun l m e => hB (by rw [e] at m; exact m)
  have h2 : (c.1.drop 1).flatten.length ≤ c.1.flatten.length := by
    have e := congrArg (fun z : List (List Str) => z.flatten.length) (List.take_append_drop 1 c.1)
    have e : (c.1.take 1 ++ c.1.drop 1).flatten.length = c.1.flatten.length := e
    rw [List.flatten_append, List.length_append] at e
    omega
  rw [ok.perm.length_eq] at h2
  rw [List.length_drop] at h1
  omega
theorem lot_len (ok : CaseOk ns c) {l : List Str} (m : l ∈ c.1) : l.length ≤ ns.length := by
  have h1 := (List.sublist_flatten_of_mem m).length_le
  rw [ok.perm.length_eq] at h1
  exact h1
theorem lk_len (ok : CaseOk ns c) (hB : ¬ Bare c) (l8 : ns.length ≤ 8) : (lkC c).length ≤ 250 := by
  have lf := fst_len ok.pos
  have lc := few_lots ok hB
  unfold lkC
  rw [List.length_append, List.length_append, List.length_append]
  have a : (lkA c).length ≤ 8 := by
    unfold lkA
    rw [List.length_map]
    have h0 := List.getElem?_eq_getElem ok.pos
    rw [head_lot h0]
    have := lot_len ok (List.mem_of_getElem? h0)
    omega
  have b : (lkB c).length ≤ 8 * 8 := by
    unfold lkB
    have h1 := flat_len (f := fun l : List Str => (l.drop 1).map fun n => (("is", l.headD "nil", n) : Row)) (m := 8) (L := c.1.drop 1) fun l m => by
      rw [List.length_map, List.length_drop]
      have := lot_len ok (List.mem_of_mem_drop m)
      omega
    rw [List.length_drop] at h1
    have : 8 * (c.1.length - 1) ≤ 8 * 8 := Nat.mul_le_mul_left _ (by omega)
    omega
  have d : (lkD c).length ≤ 8 := by
    unfold lkD
    rw [List.length_map, List.length_drop]
    omega
  have e : ((List.range (fstC c).length).flatMap (lkE (fstC c))).length ≤ 9 * 9 := by
    have h1 := flat_len (f := lkE (fstC c)) (m := 9) (L := List.range (fstC c).length) fun i m => by
      unfold lkE
      split
      · exact Nat.zero_le _
      · rw [List.length_map, List.length_drop]
        omega
    rw [List.length_range] at h1
    have : 9 * (fstC c).length ≤ 9 * 9 := Nat.mul_le_mul_left _ (by omega)
    omega
  omega
theorem pt_len (ok : CaseOk ns c) : (ptC c).length = c.2.length := by
  unfold ptC
  rw [List.length_map]
theorem pt_few (ok : CaseOk ns c) (hB : ¬ Bare c) (p0 : ∀ q ∈ c.2, 0 < q.1) : c.2.length ≤ ns.length := by
  have lc := few_lots ok hB
  have := once_len (T := c.2.map fun q => q.1) (ks := (List.range (c.1.length - 1)).map fun i : Nat => ((i + 1 : Nat) : Int)) ⟨ok.bnd, fun x m => by
    obtain ⟨q, mq, rfl⟩ := List.mem_map.mp m
    have a := ok.ar q mq
    have b := p0 q mq
    exact List.mem_map.mpr ⟨(q.1 - 1).toNat, List.mem_range.mpr (by omega), by omega⟩⟩
  rw [List.length_map, List.length_map, List.length_range] at this
  omega
theorem lk_rows (ok : CaseOk ns c) (nn : ¬ ("nil" : Str) ∈ ns) (hB : ¬ Bare c) : ∀ r ∈ lkC c, RowW ns r := fun r m => by
  refine ⟨?_, lk_terms ok nn hB r m⟩
  unfold lkC at m
  rcases List.mem_append.mp m with m | m
  · rcases List.mem_append.mp m with m | m
    · rcases List.mem_append.mp m with m | m
      · obtain ⟨n, _, rfl⟩ := List.mem_map.mp m
        exact .inl rfl
      · obtain ⟨l, _, m⟩ := List.mem_flatMap.mp m
        obtain ⟨n, _, rfl⟩ := List.mem_map.mp m
        exact .inl rfl
    · obtain ⟨f, _, rfl⟩ := List.mem_map.mp m
      exact .inr (.inl rfl)
  · obtain ⟨i, _, m⟩ := List.mem_flatMap.mp m
    unfold lkE at m
    split at m
    · exact absurd m List.not_mem_nil
    · obtain ⟨o, _, rfl⟩ := List.mem_map.mp m
      exact .inr (.inl rfl)
theorem pt_rows (ok : CaseOk ns c) (hB : ¬ Bare c) : ∀ r ∈ ptC c, RowW ns r := fun r m => by
  refine ⟨?_, pt_terms ok hB r m⟩
  obtain ⟨q, _, rfl⟩ := List.mem_map.mp m
  show wordK q.2.1 = "is" ∨ wordK q.2.1 = "isnt" ∨ wordK q.2.1 = "cell" ∨ wordK q.2.1 = "list"
  unfold wordK
  split
  · exact .inr (.inr (.inl rfl))
  · exact .inr (.inr (.inr rfl))
theorem heard_okd (hn : NamesOk ns) (ok : CaseOk ns c) (hB : ¬ Bare c) : Okd 4 400000 (toldD c) := by
  refine Okd.mono (k := 4) (n := 311033) (Okd.list (k := 3) (n := 155513) (m := 2) (fun d m => ?_) (Nat.le_refl 2))
  rcases List.mem_cons.mp m with rfl | m
  · exact told_word.1
  · rw [List.mem_singleton.mp m]
    exact cl_okd hn (lk_rows ok hn.nn hB) (pt_rows ok hB) (lk_len ok hB hn.len) (by rw [pt_len ok]; have := ok.alen; omega)
theorem unfit_okd : Okd 4 400000 unD := by
  refine Okd.mono (k := 4) (n := 311033) (Okd.list (k := 3) (n := 155513) (m := 2) (fun d m => ?_) (Nat.le_refl 2))
  rcases List.mem_cons.mp m with rfl | m
  · exact told_word.2.1
  · rw [List.mem_singleton.mp m]
    exact told_word.2.2
theorem heardD_okd (hn : NamesOk ns) (ok : CaseOk ns c) : Okd 4 400000 (heardD c) := by
  unfold heardD
  split
  · exact unfit_okd
  · rename_i hB
    exact heard_okd hn ok hB
end
theorem roadF_congr {ks ks' : List Int} {M M' : Int → Int} (h : ∀ x, x ∈ ks ↔ x ∈ ks') (hM : ∀ x ∈ ks, M x = M' x) {e : Int} (a : Int) (r : List Int) : roadF ks M e a r = roadF ks' M' e a r := by
  by_cases h1 : a = e
  · rw [roadF_end h1, roadF_end h1]
  · by_cases h2 : a ∈ ks ∧ ¬ a ∈ r
    · rw [roadF_on h1 h2.1 h2.2, roadF_on h1 ((h a).mp h2.1) h2.2, ← hM a h2.1]
      exact roadF_congr h hM (M a) (r ++ [a])
    · rw [roadF_no h1 h2, roadF_no h1 (fun z => h2 ⟨(h a).mpr z.1, z.2⟩)]
termination_by msr ks r
decreasing_by exact msr_lt h2.1 h2.2
theorem parts_congr {ks ks' : List Int} {M M' : Int → Int} (h : ∀ x, x ∈ ks ↔ x ∈ ks') (hM : ∀ x ∈ ks, M x = M' x) {w : Str → Int} : ∀ (pt : List Row) (S : List Int), partsF ks M ks w S pt = partsF ks' M' ks' w S pt
  | [], S => rfl
  | r :: pt, S => by
    have e : partP ks M ks w S r = partP ks' M' ks' w S r := by
      unfold partP
      split
      · by_cases h1 : w r.2.1 ∈ ks
        · rw [← hM _ h1]
          simp only [h1, (h _).mp h1]
        · rw [if_neg (fun z => h1 z.1), if_neg (fun z => h1 ((h _).mpr z.1))]
      · exact roadF_congr h hM _ _
    rw [partsF, partsF, e]
    cases partP ks' M' ks' w S r with
    | none => rfl
    | some T => exact parts_congr h hM pt T
theorem ex_len {most : Nat} {vals : List Int} : ∀ {chs : List Ch} {ars : List Ar}, Paired (fun (ch : Ch) (a : Ar) => vals[a.1.toNat]? = some ch.1 ∧ vals[a.2.2.toNat]? = some ch.2.2 ∧ (a.2.1 ≠ "long" → ch.2.1 = []) ∧ ch.2.1.length < most) chs ars → (chs.flatMap exC).length ≤ ars.length * most
  | _, _, .nil => Nat.zero_le _
  | _, _, .cons (a := ch) r t => by
    have ih := ex_len t
    have h2 := r.2.2.2
    rw [List.flatMap_cons, List.length_append, List.length_cons, Nat.add_mul, Nat.one_mul]
    show ch.2.1.length + 1 + _ ≤ _
    omega
/-- what lies along all of a case is true of its heaps, as sorted rows -/
theorem laid_true {ns : List Str} {c : Cs} {most : Nat} {vals : List Int} {chs : List Ch} {lk pt : List Row} (ok : CaseOk ns c) (hf : HeapF most c vals chs) (nd : ns.Nodup) (k1 : ∀ r ∈ lk, TmOk ns r.2.1 ∧ TmOk ns r.2.2) (k2 : ∀ r ∈ pt, TmOk ns r.2.1 ∧ TmOk ns r.2.2) {T : List Int} (e : takenF (keysA (ldA c)) (mapA (ldA c)) (keysA (shA c)) (wSp c) lk pt = some T) (hT : T.length = c.2.length) :
    (keysA (heapF chs)).Nodup ∧ (keysA (heapF chs)).length ≤ c.2.length * most ∧ laidO (heapF chs).length (takenF (keysA (heapF chs)) (mapA (heapF chs)) (keysA (heapF chs)) (wVal c vals) lk pt) = true := by
  have n := ex_nodup ok hf
  have kc := (cellsF_eq n).2
  have pm := List.mergeSort_perm (cellsF chs) (PySem.W.dataLe false pairI)
  have pk : (keysA (heapF chs)).Perm (keysA (cellsF chs)) := pm.map Prod.fst
  have ndc : (keysA (cellsF chs)).Nodup := by rw [kc]; exact n
  have ndh : (keysA (heapF chs)).Nodup := pk.nodup_iff.mpr ndc
  have hM : ∀ x ∈ keysA (cellsF chs), mapA (cellsF chs) x = mapA (heapF chs) x := fun x m => by
    obtain ⟨v, e, me⟩ := getA_in m
    have e2 : getA (heapF chs) x = some v := mem_getA ndh (pm.mem_iff.mpr me)
    unfold mapA
    rw [e, e2]
  refine ⟨ndh, by rw [pk.length_eq, kc]; exact ex_len hf.chain, ?_⟩
  obtain ⟨T2, e2, l2⟩ := taken_case ok hf nd k1 k2 e hT
  unfold takenF at e2 ⊢
  rw [← parts_congr (fun x => pk.mem_iff.symm) hM]
  rw [e2]
  show decide _ = true
  rw [l2]
  exact decide_eq_true pm.length_eq.symm
theorem pairsI_inv {K : PySem.W.Frag} {G : Hp} : ∀ {ps : List Addr} {st : List (Int × Int)}, DaAll K G (ps.map V.ref) (st.map pairI) → Paired (fun p kv => SqT K G p [kV kv.1, kv.2]) ps (kvK Sum.inl V.int st)
  | [], [], _ => .nil
  | [], _ :: _, h => by cases h
  | _ :: _, [], h => by cases h
  | p :: ps, q :: st, h => by
    cases h with
    | cons h1 h2 =>
      obtain ⟨a, xs, e, sq, da⟩ := h1.tupI
      cases e
      refine .cons ?_ (pairsI_inv h2)
      cases da with
      | cons a1 t =>
        cases a1
        cases t with
        | cons a2 t =>
          cases a2
          cases t
          exact sq
mutual
def tupD : PyData → Bool
  | .tuple ds => tupDs ds
  | .list _ => false
  | .dict _ => false
  | _ => true
def tupDs : List PyData → Bool
  | [] => true
  | d :: ds => tupD d && tupDs ds
end
theorem tupDs_map {α : Type} {f : α → PyData} (h : ∀ a, tupD (f a) = true) : ∀ l : List α, tupDs (l.map f) = true
  | [] => by
    rw [List.map_nil, tupDs]
  | a :: l => by
    rw [List.map_cons, tupDs, h a, tupDs_map h l]
    rfl
theorem tupD_case (c : Cs) : tupD (caseD c) = true := by
  have h1 : tupD (lotsD c.1) = true := by
    rw [tupD]
    refine tupDs_map (fun l => ?_) _
    rw [tupD]
    refine tupDs_map (fun z => ?_) _
    rw [tupD]
    all_goals (intro _ h; cases h)
  have h2 : tupD (.tuple (c.2.map arD)) = true := by
    rw [tupD]
    refine tupDs_map (fun q => ?_) _
    simp [arD, tupD, tupDs]
  show tupD (.tuple [lotsD c.1, .tuple (c.2.map arD)]) = true
  rw [tupD, tupDs, tupDs, tupDs, h1, h2]
  rfl
mutual
theorem Da.tups {K : PySem.W.Frag} {G G' : Hp} (s : ∀ a xs, SqT K G a xs → SqT K G' a xs) : ∀ {d : PyData} {v : V}, Da K G v d → tupD d = true → Da K G' v d
  | _, _, .non, _ => .non
  | _, _, .bl b, _ => .bl b
  | _, _, .int i, _ => .int i
  | _, _, .str x, _ => .str x
  | _, _, .lst h t, c => by simp [tupD] at c
  | _, _, .tup h t, c => .tup (s _ _ h) (DaAll.tups s t (by simpa [tupD] using c))
  | _, _, .dct _ _, c => by simp [tupD] at c
theorem DaAll.tups {K : PySem.W.Frag} {G G' : Hp} (s : ∀ a xs, SqT K G a xs → SqT K G' a xs) : ∀ {ds : List PyData} {vs : List V}, DaAll K G vs ds → tupDs ds = true → DaAll K G' vs ds
  | _, _, .nil, _ => .nil
  | _, _, .cons h t, c => by
    rw [tupDs, Bool.and_eq_true] at c
    exact .cons (Da.tups s h c.1) (DaAll.tups s t c.2)
end
theorem tupD_row (r : Row) : tupD (lrowD r) = true := by simp [lrowD, tupD, tupDs]
theorem tupD_cl (lk pt : List Row) : tupD (clD lk pt) = true := by
  have h : ∀ l : List Row, tupD (.tuple (l.map lrowD)) = true := fun l => by
    rw [tupD]
    exact tupDs_map tupD_row l
  show tupD (.tuple [.tuple (lk.map lrowD), .tuple (pt.map lrowD)]) = true
  rw [tupD, tupDs, tupDs, tupDs, h, h]
  rfl
theorem sqT_ext {K : PySem.W.Frag} {p l : Addr} {G H G' H' : Hp} {a : Addr} {xs : List V} (W : Wd p l G H) (e : Ext p l G H G' H') (h : SqT K H a xs) : SqT K H' a xs := by
  obtain ⟨ms, hl⟩ := W.ls
  obtain ⟨m, t, _, _, hp⟩ := W.dk
  rcases h with (q | ⟨o, q⟩) | q
  · exact .inl (.inl (e.keep _ _ (fun z => by rw [z, hp] at q; cases q) (fun z => by rw [z, hl.2] at q; cases q) q))
  · exact .inl (.inr ⟨o, e.keep _ _ (fun z => by rw [z, hp] at q; cases q) (fun z => by rw [z, hl.2] at q; cases q) q⟩)
  · exact .inr q
theorem ns_shp {ns : List Str} (h : NamesOk ns) : ∀ n ∈ ns, Shp (.str n) := fun n m => lets_shp n (h.sub n m)
end L2.Hx

/-! Clauses of cases: the law. -/
namespace L2.Hx
open PySem PySem.Spec PyProof.Rows
def spLaw (K : PySem.W.Frag) : Sp := fun vs H Q _ => ∃ (a : Addr) (ns : List Int), vs = [.ref a] ∧ SqL K H a (ns.map V.int) ∧ ns.length ≤ 63 ∧ ∀ H', Q (.bl true) H'
theorem nw_sub {H H' : Hp} : Same (Nw H H') H' := fun b o e => by
  unfold Nw at e
  split at e
  · exact e
  · cases e
theorem shp_int (i : Int) : Shp (.int i) := ⟨rfl, by simp [PyData.depth]⟩
theorem shp_tup {ds : List PyData} {n : Nat} (h : ∀ d ∈ ds, d.canLay0 = true ∧ d.depth ≤ n) (hn : n ≤ 18) : (PyData.tuple ds).canLay0 = true ∧ (PyData.tuple ds).depth ≤ n + 1 := by
  have h1 : PyData.canLayAll0 ds = true := (shp_all (es := ds) fun e m => ⟨(h e m).1, by have := (h e m).2; omega⟩).1
  refine ⟨by simpa [PyData.canLay0] using h1, ?_⟩
  have := depthAll_le (n := n) (xs := ds) fun e m => (h e m).2
  simp only [PyData.depth]
  omega
theorem shaped_of {d : PyData} (h : Shp d) : SeqAt.shaped d = true := by
  have h1 := h.1
  have h2 := h.2
  unfold SeqAt.shaped
  simp [h1]
  omega
/-- what is numbered -/
def numD : Option Cs → PyData
  | none => .none
  | some c => caseD c
theorem tupD_num (o : Option Cs) : tupD (numD o) = true := by
  cases o with
  | none => simp [numD, tupD]
  | some c => exact tupD_case c
theorem shp_strs {l : List Str} (h : ∀ n ∈ l, (PyData.str n).canLay0 = true) : (PyData.tuple (l.map .str)).canLay0 = true ∧ (PyData.tuple (l.map .str)).depth ≤ 2 := shp_tup (n := 1) (fun d m => by
  obtain ⟨n, mn, rfl⟩ := List.mem_map.mp m
  exact ⟨h n mn, by simp [PyData.depth]⟩) (by decide)
theorem num_shp {ys : List Str} {hm : Hm} {ws : Ws} {bs : List Int} (h1 : ∀ n ∈ ys, (PyData.str n).canLay0 = true) (h2 : ∀ q ∈ ws, q.2.2.1 = "short" ∨ q.2.2.1 = "long") : Shp (numD (numF ys hm ws bs)) := by
  unfold numF
  split
  · have a : (lotsD ((orderF ws bs (0 :: bs)).map (lotF ys hm))).canLay0 = true ∧ (lotsD ((orderF ws bs (0 :: bs)).map (lotF ys hm))).depth ≤ 3 := shp_tup (n := 2) (fun d m => by
      obtain ⟨l, ml, rfl⟩ := List.mem_map.mp m
      obtain ⟨s, _, rfl⟩ := List.mem_map.mp ml
      exact shp_strs fun n mn => h1 n (mem_lotF.mp mn).1) (by decide)
    have b : (PyData.tuple ((arsF ws (orderF ws bs (0 :: bs))).map arD)).canLay0 = true ∧ (PyData.tuple ((arsF ws (orderF ws bs (0 :: bs))).map arD)).depth ≤ 3 := shp_tup (n := 2) (fun d m => by
      obtain ⟨q, mq, rfl⟩ := List.mem_map.mp m
      obtain ⟨z, mz, rfl⟩ := ars_mem.mp mq
      have kw : ∀ k : Str, k = "short" ∨ k = "long" → (PyData.str k).canLay0 = true := fun k hk => by
        rcases hk with e | e <;> rw [e] <;> decide +kernel
      refine shp_tup (n := 1) (fun d m => ?_) (by decide)
      rcases List.mem_cons.mp m with rfl | m
      · exact ⟨rfl, by simp [PyData.depth]⟩
      · rcases List.mem_cons.mp m with rfl | m
        · exact ⟨kw _ (h2 z mz), by simp [PyData.depth]⟩
        · rw [List.mem_singleton.mp m]
          exact ⟨rfl, by simp [PyData.depth]⟩) (by decide)
    have c := shp_tup (n := 3) (ds := [lotsD ((orderF ws bs (0 :: bs)).map (lotF ys hm)), .tuple ((arsF ws (orderF ws bs (0 :: bs))).map arD)]) (fun d m => by
      rcases List.mem_cons.mp m with rfl | m
      · exact a
      · rw [List.mem_singleton.mp m]
        exact b) (by decide)
    exact ⟨c.1, Nat.le_trans c.2 (by decide)⟩
  · exact ⟨rfl, by simp [numD, PyData.depth]⟩
def DsAt (K : PySem.W.Frag) (H0 Hx : Hp) (B : Addr) (ds : List PyData) : Prop := Same H0 Hx ∧ ∃ vs, Hx B = some (.lst vs) ∧ DaAll K Hx vs ds ∧ tupDs ds = true
theorem tupDs_app : ∀ {a b : List PyData}, tupDs a = true → tupDs b = true → tupDs (a ++ b) = true
  | [], _, _, h => h
  | x :: a, b, h1, h2 => by
    rw [tupDs, Bool.and_eq_true] at h1
    rw [List.cons_append, tupDs, h1.1, tupDs_app h1.2 h2]
    rfl
theorem ds_add {K : PySem.W.Frag} {H0 Hx Hy : Hp} {B : Addr} {ds : List PyData} (hB : H0 B = none) (R : DsAt K H0 Hx B ds) (s : Same Hx Hy) {v : V} {d : PyData} (hd : Da K Hy v d) (ht : tupD d = true) :
    ∃ acc, Hy B = some (.lst acc) ∧ acc.length = ds.length ∧ DsAt K H0 (upd Hy B (.lst (acc ++ [v]))) B (ds ++ [d]) := by
  obtain ⟨s0, vs, h, p, t⟩ := R
  have hy := s _ _ h
  have t2 : tupDs (ds ++ [d]) = true := tupDs_app t (by rw [tupDs, tupDs, ht]; rfl)
  refine ⟨vs, hy, p.length, sameOut (s0.trans s) hB, vs ++ [v], upd_same, ?_, t2⟩
  exact DaAll.tups (G := Hy) (fun a xs q => sq_lst hy q) ((p.mono s).append (.cons hd .nil)) t2
theorem bare_any {c : Cs} : (((c.1.drop 1).map fun l => PyData.tuple (l.map .str)).any fun z => PyData.eqv z (.tuple [])) = decide (Bare c) := by
  rw [List.any_map]
  unfold Bare
  rw [Bool.eq_iff_iff, List.any_eq_true, decide_eq_true_eq]
  constructor
  · rintro ⟨l, ml, e⟩
    have e : PyData.eqv (.tuple (l.map .str)) (.tuple []) = true := e
    rw [eqv_nilT, decide_eq_true_eq] at e
    rw [List.map_eq_nil_iff.mp e] at ml
    exact ml
  · exact fun m => ⟨[], m, by show PyData.eqv (.tuple (([] : List Str).map .str)) (.tuple []) = true; rw [eqv_nilT]; rfl⟩
section
variable {P : Program} {w : World} {K : PySem.W.Frag} {mg : Str → Option Value} {base : Heap}
theorem D_law (T : Txt K mg) : DfS P w K mg base 53 "law" s_law ["script"] (spLaw K) := by
  have D_l_deck := D_deck (P := P) (w := w) (base := base) T
  have D_l_pick := D_pick (P := P) (w := w) (base := base) T
  have D_l_mixed := D_l_mixed (P := P) (w := w) (base := base) T
  have D_l_any_case := D_l_any_case (P := P) (w := w) (base := base) T
  have D_l_heard := D_l_heard (P := P) (w := w) (base := base) T
  have D_l_clause_of := D_l_clause_of (P := P) (w := w) (base := base) T
  have D_l_heap := D_l_heap (P := P) (w := w) (base := base) T
  have D_l_is_true := D_l_is_true (P := P) (w := w) (base := base) T
  have D_l_worth := D_l_worth (P := P) (w := w) (base := base) T
  have D_l_pictures := D_l_pictures (P := P) (w := w) (base := base) T
  have D_l_numbered := D_l_numbered (P := P) (w := w) (base := base) T
  obtain ⟨f, fd, S⟩ := T.d_law
  refine DfS.mk' (k := 52) S sc_law (fun vs H Q E h => ?_) (fun cdv A outer s H vs Q E hgd hr h => ?_)
  · obtain ⟨a, ns, rfl, _⟩ := h
    rfl
  · obtain ⟨a, nums, rfl, hS, hz, k⟩ := h
    have hu := hu_of hr
    have big : (5000 : Nat) ≤ sizeLine := by decide
    refine ⟨_, (pss_cons (ps_set (i := 1) sc_law.nd rfl (.inl rfl) (pe_d D_l_deck hgd hr (pa_cons (pv 0) pa_nil)))
      (pss_cons (ps_for PassesOwn.never rfl (pi_range1 rfl T.b_range (pa_cons pe_int pa_nil)) (pg_name (i := 2) sc_law.nd rfl (.inl rfl))
      (pss_cons (ps_set (i := 3) sc_law.nd rfl (.inl rfl) (pe_d D_l_mixed hgd hr (pa_cons (pv 1) (pa_cons (pe_lst (pa_cons pe_str (pa_cons pe_str (pa_cons pe_str (pa_cons pe_str (pa_cons pe_str (pa_cons pe_str pa_nil))))))) pa_nil))))
      (pss_cons (ps_set (i := 4) sc_law.nd rfl (.inl rfl) (pe_callTy call_tuple_of (by rfl) T.b_tuple (by decide +kernel) (pa_cons (pe_callB cr_sortedS (by rfl) T.b_sorted (by decide +kernel) (pa_cons (pe_slice sl_list (pv 3) po_none (po_some (pe_d D_l_pick hgd hr (pa_cons (pv 1) (pa_cons (pe_lst (pa_cons pe_int (pa_cons pe_int (pa_cons pe_int (pa_cons pe_int (pa_cons pe_int (pa_cons pe_int (pa_cons pe_int (pa_cons pe_int pa_nil))))))))) pa_nil))))) pa_nil)) pa_nil)))
      (pss_cons (ps_set (i := 5) sc_law.nd rfl (.inl rfl) (pe_d D_l_any_case hgd hr (pa_cons (pv 1) (pa_cons (pv 4) (pa_cons (pe_d D_l_pick hgd hr (pa_cons (pv 1) (pa_cons (pe_lst (pa_cons pe_int (pa_cons pe_int (pa_cons pe_int (pa_cons pe_int (pa_cons pe_int pa_nil)))))) pa_nil))) pa_nil)))))
      (pss_cons (ps_par (i := 6) (j := 7) (by rfl) sc_law.nd rfl rfl (by decide) rfl rfl (pa_cons (pe_callB (call_repr hgd hr.units) (by rfl) T.b_repr (by decide +kernel) (pa_cons (pe_lst (pa_cons (pv 4) (pa_cons (pv 5) pa_nil))) pa_nil)) (pa_cons (pe_d D_l_heard hgd hr (pa_cons (pv 4) (pa_cons (pv 5) (pa_cons (pe_cmpR op_eq (pv 2) pe_int (nomark _)) pa_nil)))) pa_nil)) (by rfl))
      (pss_cons (ps_if (PW.pt (pw_or (pt_cmpR op_ne (pe_callB (call_repr hgd hr.units) (by rfl) T.b_repr (by decide +kernel) (pa_cons (pe_d D_l_heard hgd hr (pa_cons (pv 4) (pa_cons (pv 5) (pa_cons pe_bl pa_nil)))) pa_nil)) (pe_callB (call_repr hgd hr.units) (by rfl) T.b_repr (by decide +kernel) (pa_cons (pv 7) pa_nil)) (nomark _)) (pw_or1 (pt_cmpR op_ne (pe_callB (call_repr hgd hr.units) (by rfl) T.b_repr (by decide +kernel) (pa_cons (pe_lst (pa_cons (pv 4) (pa_cons (pv 5) pa_nil))) pa_nil)) (pv 6) (nomark _))))) (pss_one (ps_ret pe_bl)) pss_nil)
      (pss_cons (ps_if (pt_cmpR (op_inT (un65 hr)) (pe_tup pa_nil) (pe_slice sl_tupA (pe_ix ix_tup (pv 5) pe_int (fun _ _ => rfl)) (po_some pe_int) po_none) (by rfl)) (pss_cons (ps_if (pt_cmpR (op_neD hr.units) (pv 7) (pe_lst (pa_cons pe_str (pa_cons pe_bl pa_nil))) (nomark _)) (pss_one (ps_ret pe_bl)) pss_nil)
      (pss_one ps_continue)) pss_nil)
      (pss_cons (ps_set (i := 8) sc_law.nd rfl (.inl rfl) (pe_d D_l_clause_of hgd hr (pa_cons (pv 5) pa_nil)))
      (pss_cons (ps_if (pt_cmpR op_ne (pe_callB (call_repr hgd hr.units) (by rfl) T.b_repr (by decide +kernel) (pa_cons (pv 7) pa_nil)) (pe_callB (call_repr hgd hr.units) (by rfl) T.b_repr (by decide +kernel) (pa_cons (pe_lst (pa_cons pe_str (pa_cons (pv 8) pa_nil))) pa_nil)) (nomark _)) (pss_one (ps_ret pe_bl)) pss_nil)
      (pss_cons (ps_asg (pe_d D_l_heap hgd hr (pa_cons (pv 1) (pa_cons (pv 5) (pa_cons pe_int pa_nil)))) (pg_tup rfl (pgs_cons (pg_name (i := 9) sc_law.nd rfl (.inl rfl)) (pgs_cons (pg_name (i := 10) sc_law.nd rfl (.inl rfl)) pgs_nil))))
      (pss_cons (ps_if (pt_not (pt_val (pe_d D_l_is_true hgd hr (pa_cons (pe_tup (pa_cons (pe_ix ix_list (pv 7) pe_int (fun _ _ => rfl)) pa_nil)) (pa_cons (pe_d D_l_worth hgd hr (pa_cons (pv 9) pa_nil)) (pa_cons (pe_callTy (call_dictPT rfl) (by rfl) T.b_dict (by decide +kernel) (pa_cons (pv 10) pa_nil)) pa_nil)))))) (pss_one (ps_ret pe_bl)) pss_nil)
      (pss_one (ps_if (pt_cmpR op_lt (pe_callB call_len_seq (by rfl) T.b_len (by decide +kernel) (pa_cons (pv 4) pa_nil)) pe_int (nomark _)) (pss_cons (ps_setLc (i := 11) (X := (cxOf CX0 P w K mg base ["script", "deck", "turn", "letters", "names", "case", "known", "heard", "due", "store", "heap", "cases", "home", "ways"] "law" (defScope s_law) f cdv A outer s H E).nox) (own := [("home", 12), ("ways", 13)]) (g := gTup K 2 (gCons (gName 12) (gCons (gName 13) gNil))) (te := tCall (spNum K) [] E0 (tCons (tVar 12) (tCons (tVar 13) tNil))) (tt := tYes) rfl sc_law.nd rfl rfl (sw_true rfl rfl rfl (by decide +kernel)) (pi_list (pe_d D_l_pictures hgd hr (pa_cons (pv 4) (pa_cons (pe_tup (pa_cons (pe_ix ix_list (pv 7) pe_int (fun _ _ => rfl)) pa_nil)) pa_nil)))) (blkOk_by (own := [("home", 12), ("ways", 13)]) (N := ["script", "deck", "turn", "letters", "names", "case", "known", "heard", "due", "store", "heap", "cases", "home", "ways"]) (sc := defScope s_law) (by decide +kernel)) (fun _ _ _ _ _ => pg_tup rfl (pgs_cons (pg_name (i := 12) sc_law.nd rfl (.inl rfl)) (pgs_cons (pg_name (i := 13) sc_law.nd rfl (.inl rfl)) pgs_nil))) (fun _ _ _ _ _ => pts_nil) (fun _ _ _ _ _ => (pe_d D_l_numbered hgd hr (pa_cons (pv 12) (pa_cons (pv 13) pa_nil)))))
      (pss_one (ps_if (pt_cmpR (op_notInLD (un65 hr)) (pv 5) (pv 11) (by rfl)) (pss_one (ps_ret pe_bl)) pss_nil))) pss_nil)))))))))))))
      (pss_one (ps_ret pe_bl)))), ?_⟩
    refine ⟨_, rfl, a, nums, rfl, hS, hz, fun p l H1 W1 => ?_⟩
    dsimp only [gName]
    refine ⟨8, rfl, by decide, by decide, for_range (lo := 0) (n := 8) (fun i σ H2 => ∃ o2 o3 o4 o5 o6 o7 o8 o9 o10 o11 o12 o13, σ = [some (.ref a), some (.ref p), o2, o3, o4, o5, o6, o7, o8, o9, o10, o11, o12, o13] ∧ ∃ G2, Wd p l G2 H2)
      ⟨_, _, _, _, _, _, _, _, _, _, _, _, rfl, H, W1⟩ ?_ (fun σ H2 _ => k H2)⟩
    rintro i σ H2 hi ⟨o2, o3, o4, o5, o6, o7, o8, o9, o10, o11, o12, o13, rfl, G2, W2⟩
    dsimp only [gName, List.set]
    -- letters
    refine ⟨_, rfl, by show 6 ≤ sizeLine; decide, fun L hL => ?_⟩
    have eL : [V.str "x", V.str "y", V.str "p", V.str "tail", V.str "result", V.str "abcdefgh"] = lets.map V.str := rfl
    rw [eL]
    have W3 := (W2.tmp (o := .lst (lets.map V.str)) hL).w
    have L3 : (upd H2 L (.lst (lets.map V.str))) L = some (.lst (lets.map V.str)) := upd_same
    generalize upd H2 L (.lst (lets.map V.str)) = H3 at W3 L3 ⊢
    refine ⟨p, l, G2, L, lets.map (fun n => (V.str n, PyData.str n)), rfl, W3, .inl (SqL.of (by rw [List.map_map]; exact L3)), by rw [List.length_map]; decide, fun z m => ?_, fun r ys G4 H4 e4 r4 r0 gr pm => ?_⟩
    · obtain ⟨n, mn, rfl⟩ := List.mem_map.mp m
      exact ⟨.str n, lets_shp n mn⟩
    obtain ⟨ms, rfl, pms⟩ := perm_map_inv (f := fun n => (V.str n, PyData.str n)) pm _ rfl
    rw [List.map_map] at r4
    have r4 : H4 r = some (.lst (ms.map V.str)) := r4
    have W4 := e4.w
    have nrp := W3.np r0
    have nrl := W3.nl r0
    clear e4 r0 gr pm L3 W3 W2 hL
    dsimp only [gName, List.set]
    refine ⟨_, rfl, _, rfl, by show 8 ≤ sizeLine; decide, fun q hq => ?_⟩
    have W5 := (W4.tmp (o := .lst [V.int 0, V.int 1, V.int 2, V.int 2, V.int 3, V.int 3, V.int 4, V.int 6]) hq).w
    have r5 := sameAdd (o := .lst [V.int 0, V.int 1, V.int 2, V.int 2, V.int 3, V.int 3, V.int 4, V.int 6]) hq _ _ r4
    refine ⟨p, l, G4, q, _, rfl, W5, upd_same, W4.np hq, W4.nl hq, by decide, by decide, fun xc H6 mc e6 => ?_⟩
    obtain ⟨cutn, _, rfl⟩ : ∃ z ∈ ([0, 1, 2, 2, 3, 3, 4, 6] : List Int), xc = .int z := by
      have mc : xc ∈ ([0, 1, 2, 2, 3, 3, 4, 6] : List Int).map V.int := mc
      obtain ⟨z, mz, e⟩ := List.mem_map.mp mc
      exact ⟨z, mz, e.symm⟩
    have r6 := e6.keep _ _ nrp nrl r5
    have W6 := e6.w
    clear e6 mc r5 W5 hq r4 W4
    refine ⟨cutn, rfl, r, _, rfl, SqL.of r6, fun S1 hS1 => ?_⟩
    obtain ⟨ms2, ec, sub⟩ := cut_strs ms none (some cutn)
    rw [ec]
    have W7 := (W6.tmp (o := .lst (ms2.map V.str)) hS1).w
    have S7 : (upd H6 S1 (.lst (ms2.map V.str))) S1 = some (.lst (ms2.map V.str)) := upd_same
    generalize upd H6 S1 (.lst (ms2.map V.str)) = H7 at W7 S7 ⊢
    clear W6 r6 hS1 ec
    have l7 : ms2.length ≤ 7 := Nat.le_trans sub.length_le (by rw [pms.length_eq]; decide)
    have nd2 : ms2.Nodup := sub.nodup (pms.nodup_iff.mpr lets_nd)
    have sub2 : ∀ n ∈ ms2, n ∈ lets := fun n m => pms.mem_iff.mp (sub.subset m)
    refine ⟨S1, ms2, rfl, SqL.of S7, by omega, fun ns p2 pns srt hp2 => ?_⟩
    have hn := names_of pns nd2 sub2
    have W8 := (W7.tmp (o := .lst (ns.map V.str)) hp2).w
    have p28 : (upd H7 p2 (.lst (ns.map V.str))) p2 = some (.lst (ns.map V.str)) := upd_same
    generalize upd H7 p2 (.lst (ns.map V.str)) = H8 at W8 p28 ⊢
    clear W7 S7 hp2 pns nd2 sub2 l7 sub
    refine ⟨p2, _, rfl, .inl ⟨SqL.of p28, fun nt hnt => ?_⟩⟩
    have f9 := W8.put (o := .tup (ns.map V.str)) hnt
    have nt9 : (upd G4 nt (.tup (ns.map V.str))) nt = some (.tup (ns.map V.str)) := upd_same
    have W9 := f9.w
    generalize upd G4 nt (.tup (ns.map V.str)) = G9 at W9 nt9
    generalize upd H8 nt (.tup (ns.map V.str)) = H9 at W9 ⊢
    clear f9 hnt p28 W8
    dsimp only [gName, List.set]
    -- case
    refine ⟨_, rfl, _, rfl, _, rfl, by show 5 ≤ sizeLine; decide, fun q hq => ?_⟩
    have W10 := (W9.tmp (o := .lst [V.int 0, V.int 0, V.int 0, V.int 1, V.int 2]) hq).w
    refine ⟨p, l, G9, q, _, rfl, W10, upd_same, W9.np hq, W9.nl hq, by decide, by decide, fun xc H10 mc e10 => ?_⟩
    obtain ⟨nl, mnl, rfl⟩ : ∃ z ∈ ([0, 0, 0, 1, 2] : List Int), xc = .int z := by
      have mc : xc ∈ ([0, 0, 0, 1, 2] : List Int).map V.int := mc
      obtain ⟨z, mz, e⟩ := List.mem_map.mp mc
      exact ⟨z, mz, e.symm⟩
    have nlb : 0 ≤ nl ∧ nl ≤ 10 := by
      have h : (([0, 0, 0, 1, 2] : List Int).all fun z => decide (0 ≤ z ∧ z ≤ 10)) = true := by decide
      exact of_decide_eq_true (List.all_eq_true.mp h nl mnl)
    refine ⟨p, l, G9, nt, ns, nl, rfl, e10.w, SqT.of nt9, hn.nd, hn.nn, hn.len, ns_shp hn, nlb.1, nlb.2, fun c cv G11 H11 cf l39 e11 dc => ?_⟩
    have N := case_n hn.nd hn.nn hn.len cf
    have ok := N.ok
    have W11 := e11.w
    have nt11 := e11.sub _ _ nt9
    clear e11 W9 nt9 e10 mc mnl nlb W10 hq
    dsimp only [gName, List.set]
    -- known, heard
    have dnm : Da K G11 (.ref nt) (namesD ns) := .tup (SqT.of nt11) (da_strs _)
    obtain ⟨b1, b2, b3⟩ := (both_okd hn ok).shown (by decide) (by decide)
    obtain ⟨r1, r2, r3⟩ := (heardD_okd hn ok).shown (by decide) (by decide)
    refine ⟨_, rfl, _, rfl, by show 2 ≤ sizeLine; decide, fun q1 hq1 => ?_⟩
    have s12 := sameAdd (o := .lst [V.ref nt, cv]) hq1
    have q12 : (upd H11 q1 (.lst [V.ref nt, cv])) q1 = some (.lst [V.ref nt, cv]) := upd_same
    generalize upd H11 q1 (.lst [V.ref nt, cv]) = H12 at s12 q12 ⊢
    have dboth : ∀ {Hz : Hp} {q : Addr}, Same H11 Hz → Hz q = some (.lst [V.ref nt, cv]) → Da K Hz (.ref q) (.list [namesD ns, caseD c]) := fun sz hq => .lst hq (.cons (dnm.mono (W11.same.trans sz)) (.cons (dc.mono (W11.same.trans sz)) .nil))
    refine ⟨.ref q1, _, H12, rfl, Same.refl _, dboth s12 q12, b1, b2, b3, ?_⟩
    refine ⟨_, rfl, _, rfl, _, rfl, rfl, .ref nt, cv, _, G11, ns, c, rfl, W11.same.trans s12, dc, ok, hn.len, ns_shp hn, fun z u wv H13 s13 hz dz dw => ⟨_, _, rfl, ?_⟩⟩
    have s1 := s12.trans s13
    clear q12 hq1 s12 s13
    dsimp only [gName, List.set]
    refine ⟨_, rfl, _, rfl, .ref nt, cv, false, G11, ns, c, rfl, W11.same.trans s1, dc, ok, hn.len, ns_shp hn, fun z2 u2 w2 H14 s14 _ dz2 _ => ?_⟩
    refine ⟨.ref z2, _, H14, rfl, Same.refl _, dz2, r1, r2, r3, _, rfl, .ref z, _, H14, rfl, Same.refl _, dz.mono s14, r1, r2, r3, rfl, _, rfl, ?_⟩
    rw [decide_eq_true rfl]
    refine if_no rfl ?_
    refine ⟨_, rfl, _, rfl, by show 2 ≤ sizeLine; decide, fun q2 hq2 => ?_⟩
    have s15 := (s1.trans s14).trans (sameAdd (o := .lst [V.ref nt, cv]) hq2)
    have s35 := s14.trans (sameAdd (o := .lst [V.ref nt, cv]) hq2)
    refine ⟨.ref q2, _, _, rfl, Same.refl _, dboth s15 upd_same, b1, b2, b3, _, rfl, rfl, _, rfl, ?_⟩
    rw [decide_eq_true rfl]
    refine if_no rfl ?_
    generalize upd H14 q2 (.lst [V.ref nt, cv]) = H15 at s15 s35 ⊢
    clear dz2 s14 hq2 dboth b1 b2 b3
    -- nameless lots
    have s01 := W11.same.trans s15
    obtain ⟨va, c1, c2, ls, as, rfl, sva, sb1, dls, sb2, das⟩ := da_case dc
    have lls : ls.length = c.1.length := by rw [dls.length, List.length_map]
    have l60 := ok.len
    have p0 := ok.pos
    have shl : ∀ e ∈ (c.1.drop 1).map (fun l => PyData.tuple (l.map .str)), Shp e := fun e m => by
      obtain ⟨l, ml, rfl⟩ := List.mem_map.mp m
      exact shp_lot (ns_shp hn) fun n mn => ok.perm.mem_iff.mp (List.mem_flatten.mpr ⟨l, List.mem_of_mem_drop ml, mn⟩)
    have dl1 : DaAll K G11 (ls.drop 1) ((c.1.drop 1).map fun l => PyData.tuple (l.map .str)) := by
      rw [List.map_drop]
      exact dls.drop 1
    dsimp only [tNext]
    refine ⟨by show 0 ≤ sizeLine; exact Nat.zero_le _, fun e0 h0 => ?_⟩
    have s16 := sameAdd (o := .tup []) h0
    have e01 : (upd H15 e0 (.tup [])) e0 = some (.tup []) := upd_same
    generalize upd H15 e0 (.tup []) = H16 at s16 e01 ⊢
    refine ⟨_, rfl, va, _, 0, V.ref c1, rfl, rfl, sameT (s01.trans s16) sva, rfl, _, rfl, ?_⟩
    refine ⟨c1, ls, rfl, sameT (s01.trans s16) sb1, fun e => absurd e.1 (no_whole (by omega)), fun _ p2 hp2 => ?_⟩
    rw [cut1 (xs := ls) (by rw [lls]; exact ok.pos)]
    have s17 := s16.trans (sameAdd (o := .tup (ls.drop 1)) hp2)
    have e02 := sameAdd (o := .tup (ls.drop 1)) hp2 _ _ e01
    have p22 : (upd H16 p2 (.tup (ls.drop 1))) p2 = some (.tup (ls.drop 1)) := upd_same
    generalize upd H16 p2 (.tup (ls.drop 1)) = H17 at s17 e02 p22 ⊢
    refine ⟨.tuple [], _, .tup (SqT.of e02) .nil, .tup (SqT.of p22) (dl1.dp (s01.trans s17) (shp_all shl).1), by decide +kernel, shaped_tup shl, _, rfl, ?_⟩
    rw [bare_any]
    refine iteD (fun hB => ?_) (fun hB => ?_)
    · have hd : heardD c = unD := by
        unfold heardD
        rw [if_pos hB]
      rw [hd] at dz
      refine ⟨_, rfl, by show 2 ≤ sizeLine; decide, fun z0 hz0 => ?_⟩
      have s18 := s17.trans (sameAdd (o := .lst [V.str "unfit", V.bl true]) hz0)
      refine ⟨unD, unD, (dz.mono (s35.trans s18)).dp (Same.refl _) (by decide +kernel), .lst (SqL.of upd_same) (.cons (.str _) (.cons (.bl _) .nil)), by decide +kernel, by decide +kernel, _, rfl, ?_⟩
      rw [SeqAt.eqv_refl _ (by decide +kernel)]
      refine if_no rfl ?_
      exact ⟨_, _, _, _, _, _, _, _, _, _, _, _, rfl, G11, (W11.still (s15.trans s18)).w⟩
    have hd : heardD c = toldD c := by
      unfold heardD
      rw [if_neg hB]
    rw [hd] at dz r1 r2 r3
    have dcl := dw hB
    clear e01 e02 p22 h0 hp2 dl1 shl hd dw
    obtain ⟨hu1, hzw⟩ : u = V.str "told" ∧ True := by
      cases dz with
      | lst h t =>
        rw [hz] at h
        cases h
        cases t with
        | cons a t =>
          cases a
          exact ⟨rfl, trivial⟩
    subst hu1
    clear hzw
    -- due
    have s37 := s35.trans s17
    refine ⟨_, rfl, .ref va, G11, ns, c, rfl, s01.trans s17, dc, ok, hn.len, hB, fun zc H18 s18 dzc => ?_⟩
    dsimp only [gName, List.set]
    have s38 := s37.trans s18
    refine ⟨_, rfl, .ref z, _, H18, rfl, Same.refl _, dz.mono s38, r1, r2, r3, _, rfl, by show 2 ≤ sizeLine; decide, fun q4 hq4 => ?_⟩
    have s19 := s18.trans (sameAdd (o := .lst [V.str "told", zc]) hq4)
    have dz9 : Da K (upd H18 q4 (.lst [V.str "told", zc])) (.ref q4) (toldD c) := .lst upd_same (.cons (.str _) (.cons (dzc.mono (sameAdd hq4)) .nil))
    generalize upd H18 q4 (.lst [V.str "told", zc]) = H19 at s19 dz9 ⊢
    refine ⟨.ref q4, _, H19, rfl, Same.refl _, dz9, r1, r2, r3, rfl, _, rfl, ?_⟩
    rw [decide_eq_true rfl]
    refine if_no rfl ?_
    have s39 := s37.trans s19
    have W19 := (W11.still ((s15.trans s17).trans s19)).w
    have hz9 := s39 _ _ hz
    have dcl9 := dcl.mono s39
    clear dz9 hq4 dzc s18 s38 s37 s17 s19 s35 s01 s15 s1 hz dcl dz s16
    have nzp : z ≠ p := fun e => by
      obtain ⟨m, t, _, _, hp⟩ := W19.dk
      rw [e, hp] at hz9
      cases hz9
    have nzl : z ≠ l := fun e => by
      obtain ⟨ms, _, hl⟩ := W19.ls
      rw [e, hl] at hz9
      cases ms with
      | nil => cases hz9
      | cons x r => cases hz9
    -- a heap of the case
    dsimp only [tNext]
    refine ⟨_, rfl, _, rfl, p, l, G11, .ref va, ns, c, 3, rfl, W19, dc, ok, hn.len, by decide, by decide, fun hrr ha hb ps vals chs G20 H20 e20 sr pa db dps db2 hf => ?_⟩
    obtain ⟨qs, plb, dqs⟩ := db
    have lt := laid_true ok hf hn.nd (lk_terms ok hn.nn hB) (pt_terms ok hB) (taken_own ok hn.nd hn.nn hB N.kind) (by rw [List.length_map])
    refine ⟨hrr, _, rfl, sameT e20.w.same sr, rfl, _, _, rfl, _, _, rfl, rfl, ?_⟩
    dsimp only [gName, List.set]
    have hz20 := e20.keep _ _ nzp nzl hz9
    have dcl20 : Da K H20 wv (clD (lkC c) (ptC c)) := Da.tups (fun _ _ q => sqT_ext W19 e20 q) dcl9 (tupD_cl _ _)
    have W20 := e20.w
    have nt20 := e20.sub _ _ nt11
    have dc20 := dc.mono e20.sub
    clear e20 W19 hz9 dcl9 nt11 dc sr db2
    refine ⟨_, rfl, z, _, 1, wv, rfl, rfl, SqL.of hz20, rfl, by show 1 ≤ sizeLine; decide, fun t2 ht2 => ?_⟩
    have s21 := sameAdd (o := .tup [wv]) ht2
    have t21 : (upd H20 t2 (.tup [wv])) t2 = some (.tup [wv]) := upd_same
    generalize upd H20 t2 (.tup [wv]) = H21 at s21 t21 ⊢
    refine ⟨_, rfl, ha, ps, G20, ns, c, 3, vals, chs, rfl, W20.same.trans s21, pa, dps, ok, hn, hf, fun wo VS H22 s22 h0 hwo gvs => ?_⟩
    refine ⟨_, rfl, hb, qs, kvK Sum.inl V.int (heapF chs), rfl, plb.same (W20.same.trans (s21.trans s22)), paired_mpL (pairsI_inv dqs) (fun t kv h => sameT (W20.same.trans (s21.trans s22)) h), fun dv hdv => ?_⟩
    have mm : mergeK [] (kvK (Sum.inl : Int → Key) V.int (heapF chs)) = kvK Sum.inl V.int (heapF chs) := by
      have := merge_kv (ι := (Sum.inl : Int → Key)) (f := V.int) inl_inj (heapF chs) [] (by rw [List.nil_append]; exact lt.1)
      rw [List.nil_append] at this
      exact this
    rw [mm]
    have s23 := sameAdd (o := .dK (kvK Sum.inl V.int (heapF chs))) hdv
    have sA := (s21.trans s22).trans s23
    have l40 := ok.alen
    refine ⟨t2, wo, dv, wv, lkC c, ptC c, VS, wVal c vals, heapF chs, H20, rfl, sameT (s22.trans s23) (SqT.of t21), sA, dcl20, s23 _ _ hwo, upd_same, by have := lt.2.1; omega, fun r m => ⟨gvs _ (lk_terms ok hn.nn hB r m).1, gvs _ (lk_terms ok hn.nn hB r m).2⟩, fun r m => ⟨gvs _ (pt_terms ok hB r m).1, gvs _ (pt_terms ok hB r m).2⟩, fun H24 s24 => ⟨_, rfl, ?_⟩⟩
    rw [lt.2.2]
    refine if_no rfl ?_
    have s25 := sA.trans s24
    have hz24 := s25 _ _ hz20
    have dcl24 := dcl20.mono s25
    have W24 := (W20.still s25).w
    have nt24 := W24.same _ _ nt20
    have dc24 := dc20.mono W24.same
    clear s25 s24 sA s23 hdv hwo s22 t21 s21 ht2 hz20 dcl20 W20 mm lt hf dps pa plb dqs
    dsimp only [tNext]
    refine ⟨_, rfl, nt, ns.map V.str, rfl, .inr (SqT.of nt24), _, _, rfl, rfl, _, rfl, ?_⟩
    refine iteD (fun h4 => ?_) (fun _ => ⟨_, _, _, _, _, _, _, _, _, _, _, _, rfl, _, W24⟩)
    rw [List.length_map] at h4
    have l3 : ns.length ≤ 3 := by omega
    have lp := pt_few ok hB N.pos0
    refine ⟨_, rfl, _, rfl, z, _, 1, wv, rfl, rfl, SqL.of hz24, rfl, by show 1 ≤ sizeLine; decide, fun t4 ht4 => ?_⟩
    have s5 := sameAdd (o := .tup [wv]) ht4
    have t45 : (upd H24 t4 (.tup [wv])) t4 = some (.tup [wv]) := upd_same
    generalize upd H24 t4 (.tup [wv]) = H25 at s5 t45 ⊢
    have ndn : (("nil" : Str) :: ns).Nodup := List.nodup_cons.mpr ⟨hn.nn, hn.nd⟩
    refine ⟨nt, t4, ns, wv, lkC c, ptC c, H24, rfl, SqT.of (s5 _ _ nt24), SqT.of t45, s5, dcl24, ndn, l3, by rw [pt_len ok]; omega, by have := lk_len ok hB hn.len; omega, lk_terms ok hn.nn hB, pt_terms ok hB, fun Lp pcs H26 s26 PI PO => ?_⟩
    obtain ⟨ts, hLp, pts⟩ := PI
    have lts : ts.length = pcs.length := Paired.length pts
    have lhm := homes_len ns l3 ns.length (Nat.le_refl _)
    rw [List.take_length] at lhm
    have lpc : pcs.length ≤ 274625 := by
      have h1 := PO.len
      have h2 : 5 ^ ns.length ≤ 125 := Nat.le_trans (Nat.pow_le_pow_right (by decide) l3) (by decide)
      have h3 : 2197 * (homesF ns).length ≤ 2197 * 125 := Nat.mul_le_mul_left _ (by omega)
      omega
    have sz : (300000 : Nat) ≤ sizeLine := by decide
    have HK := fun hm (m : hm ∈ homesF ns) => homes_k ns ndn ns.length (Nat.le_refl _) hm (by rw [List.take_length]; exact m)
    have HB := fun hm (m : hm ∈ homesF ns) => homes_ok ns ns.length (Nat.le_refl _) hm (by rw [List.take_length]; exact m)
    rw [List.take_length] at HK
    refine ⟨Lp, rfl, ⟨_, SqL.of hLp⟩, fun D hD => lc_list (K := K) (a := Lp) (xs := ts.map V.ref) (fun i Hx => ∃ ds : List PyData, DsAt K H26 Hx D ds ∧ ds.length = i ∧ (∀ d ∈ ds, Shp d) ∧ ∀ (j : Nat) (q : Hm × Wp), j < i → pcs[j]? = some q → OwnH (wSp c) ("nil" :: ns) q.1 → q.2 = ownW c q.1 c.2 → caseD c ∈ ds)
      ⟨[], ⟨sameAdd hD, [], upd_same, .nil, by rw [tupDs]⟩, rfl, fun d m => absurd m List.not_mem_nil, fun j q h => absurd h (Nat.not_lt_zero j)⟩ (fun i Hx _ ⟨ds, h, _⟩ => SqL.of (h.1 _ _ hLp)) ?_ ?_⟩
    · rintro j y Hx hy ⟨ds, RD, lds, shs, own⟩
      rw [List.getElem?_map] at hy
      obtain ⟨t, ht, rfl⟩ := Option.map_eq_some_iff.mp hy
      obtain ⟨q, hq, d, e, sqt, hd2, WW⟩ := paired_at pts ht
      have mq := List.mem_of_getElem? hq
      have il := (List.getElem?_eq_some_iff.mp hq).1
      obtain ⟨mh, wok⟩ := PO.ok q mq
      have K1 := HK q.1 mh
      have B1 := HB q.1 mh
      obtain ⟨ws, hws, tws, ews⟩ := WW
      have sx := RD.1
      have kws : keysA ws = keysA q.2 := by
        rw [← ews]
        unfold keysA
        rw [List.map_map]
        rfl
      have lws : ws.length = q.2.length := by rw [← ews, List.length_map]
      have lwk := wok.len
      rw [pt_len ok] at lwk
      refine ⟨t, _, rfl, sameT sx sqt, rfl, _, _, rfl, _, _, rfl, rfl, rfl, ?_⟩
      refine ⟨_, rfl, _, rfl, d, e, q.1, ws, rfl, sx _ _ hd2, sx _ _ hws, fun z m => sameT sx (tws z m), K1.nd, by have := B1.len; omega, by rw [kws]; exact wok.nd, by omega, by rw [kws]; exact wok.no0, fun ys bs v H' py srt2 bg s' res => ?_⟩
      have dv : Da K H' v (numD (numF ys q.1 ws bs)) := by
        rcases res with ⟨e1, e2⟩ | ⟨c', e1, e2⟩
        · rw [e1, e2]
          exact .non
        · rw [e1]
          exact e2.mono nw_sub
      obtain ⟨acc, a1, a2, a3⟩ := ds_add hD RD s' dv (tupD_num _)
      refine ⟨acc, a1, by omega, ds ++ [numD (numF ys q.1 ws bs)], a3, by rw [List.length_append, lds]; rfl, fun x m => ?_, fun j2 q2 hj2 hq2 O eO => ?_⟩
      · rcases List.mem_append.mp m with m | m
        · exact shs x m
        · rw [List.mem_singleton.mp m]
          refine num_shp (fun n mn => ?_) fun z mz => ?_
          · rcases List.mem_cons.mp ((K1.keys n).mp (py.mem_iff.mp mn)) with e | m
            · rw [e]
              decide +kernel
            · exact (ns_shp hn n m).1
          · have m2 : (z.1, z.2.2) ∈ q.2 := by rw [← ews]; exact List.mem_map.mpr ⟨z, mz, rfl⟩
            exact wok.kind _ m2
      · by_cases h : j2 < j
        · exact List.mem_append_left _ (own j2 q2 h hq2 O eO)
        · have ej : j2 = j := by omega
          rw [ej, hq] at hq2
          have eq2 := Option.some.inj hq2
          rw [← eq2] at O eO
          have OC : OwnC ns c q.1 := ⟨N, case_u cf hB, hn.nd, hn.nn, hB, O⟩
          rw [OC.num py K1.nd srt2 bg (by rw [ews]; exact eO)]
          exact List.mem_append_right _ List.mem_cons_self
    · rintro Hx ⟨ds, RD, lds, shs, own⟩
      rw [List.length_map, lts] at own
      dsimp only [gName, List.set]
      obtain ⟨hm, mhm, O⟩ := own_home (wSp c) ns ndn ns.length (Nat.le_refl _)
      rw [List.take_length] at mhm O
      have OC : OwnC ns c hm := ⟨N, case_u cf hB, hn.nd, hn.nn, hB, O⟩
      have mp := PO.own hm mhm OC.looks (ownW c hm c.2) fun sp => OC.pic sp c.2 [] (List.append_nil _)
      obtain ⟨j, hj⟩ := List.mem_iff_getElem?.mp mp
      have mc := own j _ (List.getElem?_eq_some_iff.mp hj).1 hj O rfl
      obtain ⟨sx, vs, hvs, dvs, _⟩ := RD
      have shc := shs _ mc
      have sE := s5.trans (s26.trans sx)
      refine ⟨_, rfl, _, rfl, caseD c, ds, (dc24.mono sE).dp (Same.refl _) shc.1, .lst (SqL.of hvs) (dvs.dp (Same.refl _) (shp_all shs).1), shaped_of shc, shaped_list shs, _, rfl, ?_⟩
      rw [show (ds.any fun z => PyData.eqv z (caseD c)) = true from List.any_eq_true.mpr ⟨caseD c, mc, SeqAt.eqv_refl _ shc.1⟩]
      refine if_no rfl ?_
      exact ⟨_, _, _, _, _, _, _, _, _, _, _, _, rfl, _, (W24.still sE).w⟩
end
end L2.Hx

/-! The end: the row from the promise of its def. -/
namespace L2.Hx
open PySem PySem.Spec PyProof.Rows
section
variable {P : Program} {w : World} {K : PySem.W.Frag} {mg mb : Str → Option Value} {k : Nat} {f a : Addr} {fd : FuncData} {x : Str} {sp : Sp} {t0 : Shared} {us0 : List Value} {ns : List Int}
/-- what stands ahead of the call of the def -/
structure Ahead (K : PySem.W.Frag) (mg mb : Str → Option Value) (t0 : Shared) (a : Addr) (us0 : List Value) (ns : List Int) : Prop where
  kin : K.In t0.heap
  nsG : t0.heap.Ns mainGlobals mg
  nsB : t0.heap.Ns builtinsNs mb
  bb : ∀ y : Str, y ≠ "__name__" → mb y = bootBuiltins y
  lim : t0.heap.NoLimit
  gens : t0.gens = #[]
  obj : t0.heap.get? a = some { cls := .type "list", data := .seq us0.toArray }
  are : IntsAre us0 ns
  len : ns.length ≤ sizeLine
/-- what stands behind it -/
abbrev Done (t0 : Shared) : Result → Shared → Prop := fun r z => r = .ok (.ret (.bool true)) ∧ OldK t0.heap z.heap ∧ z.os = t0.os ∧ AllBare z.gens
/-- from a heap in which nothing but the script may be tracked -/
theorem Ahead.from_ {H : Hp} (Z : Ahead K mg mb t0 a us0 ns) (room : Room k callerA) (F : ∀ base : Heap, K.In base → base.Ns mainGlobals mg → FnG P w K mg base CX0 k f fd [x] sp) (bind : ∀ (s : Shared) (u : Value), BindsTo s fd ⟨[u], []⟩ [(x, u)])
    (hO : Only H) (prom : sp [.ref a] H (fun v _ => v = .bl true) fun _ _ _ => False) (ok0 : HOk P w H t0.heap) (alone : ∀ b, H b ≠ none → b = a) (notK : H a ≠ none → K.lookup a = none) :
    codeAny (model P w) callerA (.call (.ref f) ⟨[.ref a], []⟩) (Done t0) t0 := by
  have free : ∀ {b : Addr} {o : Obj} {es : Array DictEntry} {n : Nat}, t0.heap.get? b = some o → o.data = .dict es n → H b = none := fun {b o es n} e d => by
    rcases hO b with q | ⟨o2, xs, q⟩
    · exact q
    · have ea := alone b (by rw [q]; exact Option.some_ne_none _)
      rw [ea, Z.obj] at e
      cases e
      cases d
  have ns1 : ∀ {b : Addr} {m : Str → Option Value}, t0.heap.Ns b m → (hidT t0.heap H).Ns b m := fun {b m} z => by
    obtain ⟨o, es, n, e, d, r⟩ := z
    exact ⟨o, es, n, hidT_get e (free e d), d, r⟩
  have kin1 : K.In (hidT t0.heap H) := fun b o e => by
    refine hidT_get (Z.kin b o e) ?_
    rcases hO b with q | ⟨o2, xs, q⟩
    · exact q
    · have nn : H b ≠ none := by
        rw [q]
        exact Option.some_ne_none _
      have ea := alone b nn
      rw [ea] at nn e
      rw [notK nn] at e
      cases e
  have lim1 : (hidT t0.heap H).NoLimit := by
    obtain ⟨m, z1, z2⟩ := Z.lim
    exact ⟨m, ns1 z1, z2⟩
  have env : Env0 P w K mg (hidT t0.heap H) callerA [] t0 H :=
    ⟨rfl, ⟨kin1, ns1 Z.nsG, ⟨mb, ns1 Z.nsB, Z.bb⟩, lim1⟩, fun b o e => of_hidT e, Nat.le_of_eq (hidT_size _ _), trivial, fun b z => absurd (show b ∈ ([] : List Addr) from z) List.not_mem_nil, ok0, .of_eq Z.gens⟩
  refine codeAny_mono ((F _ kin1 (ns1 Z.nsG)).go callerA [] t0 H ⟨[.ref a], []⟩ [.ref a] [.ref a] _ _ rfl room env (bind t0 (.ref a)) (.cons rfl .nil) prom) fun r z h => ?_
  match r, h with
  | .ok (.ret u), h =>
    obtain ⟨v, H1, e1, e2, e3, e4, e5, e6⟩ := h
    have ev : v = .bl true := e6
    rw [ev] at e5
    have eu : u = Value.bool true := e5
    rw [eu]
    refine ⟨rfl, OldK.of_keep fun b o e => ?_, e1, e2⟩
    rcases hO b with q | ⟨o2, xs, q⟩
    · exact e3.keep b o e q (fun m => absurd (show b ∈ ([] : List Addr) from m) List.not_mem_nil) (by simp)
    · have q1 := e3.frzs b o2 _ q
      have g0 := (ok0 b _ q).1
      have g1 := (e4 b _ q1).1
      rw [e] at g0
      cases g0
      exact g1
theorem Ahead.call (Z : Ahead K mg mb t0 a us0 ns) (room : Room k callerA) (F : ∀ base : Heap, K.In base → base.Ns mainGlobals mg → FnG P w K mg base CX0 k f fd [x] sp) (bind : ∀ (s : Shared) (u : Value), BindsTo s fd ⟨[u], []⟩ [(x, u)])
    (prom : ∀ H : Hp, SqL K H a (ns.map V.int) → sp [.ref a] H (fun v _ => v = .bl true) fun _ _ _ => False) : codeAny (model P w) callerA (.call (.ref f) ⟨[.ref a], []⟩) (Done t0) t0 := by
  have vals := vals_ints Z.are
  have lens := Z.are.length
  cases own : K.lookup a with
  | some o =>
    have eo := Z.kin a o own
    rw [Z.obj] at eo
    cases eo
    refine Z.from_ (H := fun _ => none) room F bind (fun _ => .inl rfl) (prom _ (.inr ⟨_, us0.toArray, _, own, rfl, rfl, rfl, ?_, vals⟩)) (fun b u q => nomatch q) (fun b q => absurd rfl q) (fun q => absurd rfl q)
    rw [List.size_toArray, lens]
    exact Z.len
  | none =>
    refine Z.from_ (H := fun b => if b = a then some (.frz { cls := .type "list", data := .seq us0.toArray } (.lst (ns.map V.int))) else none) room F bind (fun b => ?_) (prom _ (.inl (.inr ⟨_, if_pos rfl⟩))) (fun b u q => ?_) (fun b q => ?_) (fun _ => own)
    · by_cases e : b = a
      · exact .inr ⟨_, _, if_pos e⟩
      · exact .inl (if_neg e)
    · by_cases e : b = a
      · have q1 := (if_pos e).symm.trans q
        cases q1
        rw [e]
        exact ⟨Z.obj, by rw [List.length_map]; exact Z.len, us0, _, vals, Z.obj⟩
      · have q1 := (if_neg e).symm.trans q
        cases q1
    · by_cases e : b = a
      · exact e
      · exact absurd (if_neg e) q
end
/-- the row's walk -/
theorem walkG {l : PySem.W.OpenLaw} {n k : Nat} {q : Program} {loose : List Str} {XP : (Str → Option Value) → Heap → Prop} {YP : World → Heap → Prop} {d : DefRec} {K : Params → PySem.W.Frag} {sp : PySem.W.Frag → Sp} {x : Str}
    (hn : l.most = some n) (hz : n ≤ sizeLine) (nodef : d.params.defaults = []) (room : Room k callerA) (hY : ∀ (w : World) (h : Heap), YP w h → (K w.params).In h)
    (F : ∀ (w : World) (mg : Str → Option Value) (f : Addr) (h : Heap), (K w.params).In h → h.Ns mainGlobals mg → mg d.name = some (.ref f) →
      ∃ fd : FuncData, (∀ (s : Shared) (u : Value), BindsTo s fd ⟨[u], []⟩ [(x, u)]) ∧ ∀ base : Heap, FnG l.prog w (K w.params) mg base CX0 k f fd [x] (sp (K w.params)))
    (prom : ∀ (K : PySem.W.Frag) (H : Hp) (a : Addr) (ns : List Int), ns.length ≤ n → SqL K H a (ns.map V.int) → sp K [.ref a] H (fun v _ => v = .bl true) fun _ _ _ => False) :
    PySem.W.WalkO q loose XP YP l.row.toRowW d [] (fun f vs => PySem.call f vs) := by
  refine Att.attach_call hn nodef fun w s0 t0 mg mb f o pm cd doc a us0 ns G Y _ _ _ here obj are len gens => ?_
  have kin := hY w _ Y
  obtain ⟨fd, b, FF⟩ := F w mg f _ kin G.T.g here
  have Z : Ahead (K w.params) mg mb t0 a us0 ns := ⟨kin, G.T.g, G.T.b, G.T.builtins, G.T.nolimit, gens, obj, are, Nat.le_trans len hz⟩
  exact Z.call room (fun base _ _ => FF base) b fun H hS => prom _ H a ns len hS
/-- a def of the top, where it stands -/
theorem src_of {K : PySem.W.Frag} {mg : Str → Option Value} {h : Heap} {x : Str} {st : Stmt} {ps : List Str} {f : Addr} {oc kV doc pm cdv ct : Value} {od an : Option Addr} {osl : Array (Option Value)} (X : K.In h) (G : h.Ns mainGlobals mg)
    (e1 : PySem.W.nsIn K mainGlobals x = some (some (.ref f))) (e2 : K.lookup f = some ⟨oc, od, .func (PySem.W.fnOf x x (defArgs st) (defBody st) (defScope st) .none kV doc pm an cdv ct), osl⟩) (e3 : PySem.W.codeIn K cdv x = true) (e4 : PySem.W.keepIn K (.ref f) = true)
    (hb : ∀ (kV doc pm : Value) (an : Option Addr) (cdv ct : Value) (us : List Value), us.length = ps.length → bindArgs (PySem.W.fnOf x x (defArgs st) (defBody st) (defScope st) .none kV doc pm an cdv ct) ⟨us, []⟩ = pure (ps.zip us)) : ∃ f fd, Src K mg x st ps f fd :=
  ⟨f, _, fun_mk e2 e3 e4, PySem.W.mg_of X G e1, (fun_mk e2 e3 e4).binds hb⟩
/-- a tuple of texts of the top -/
theorem tup_of {K : PySem.W.Frag} {mg : Str → Option Value} {h : Heap} {x : Str} {a : Addr} {ws : List Str} {o : Obj} {its : Array Value} {n : Nat} (X : K.In h) (G : h.Ns mainGlobals mg) (e1 : PySem.W.nsIn K mainGlobals x = some (some (.ref a))) (e2 : K.lookup a = some o)
    (e3 : o.cls = .type "tuple" ∧ o.data = .seq its n ∧ its.size ≤ sizeLine ∧ Vals (ws.map V.str) its.toList) : ∃ a, mg x = some (.ref a) ∧ ∀ H, SqT K H a (ws.map V.str) :=
  ⟨a, PySem.W.mg_of X G e1, fun H => .inr ⟨o, its, n, e2, e3.1, e3.2.1, e3.2.2.1, e3.2.2.2⟩⟩
theorem da_walk {l : PySem.W.OpenLaw} {q : Program} {loose : List Str} {XP : (Str → Option Value) → Heap → Prop} {YP : World → Heap → Prop} {d : DefRec} {K : Params → PySem.W.Frag} (hn : l.most = some 63) (nodef : d.params.defaults = []) (nm : d.name = "law")
    (hY : ∀ (w : World) (h : Heap), YP w h → (K w.params).In h) (F : ∀ (w : World) (mg : Str → Option Value) (h : Heap), (K w.params).In h → h.Ns mainGlobals mg → Txt (K w.params) mg) : PySem.W.WalkO q loose XP YP l.row.toRowW d [] (fun f vs => PySem.call f vs) :=
  walkG (n := 63) (k := 53) (x := "script") (sp := spLaw) hn (by decide) nodef ⟨rfl, by decide, by decide⟩ hY (fun w mg f h kin G here => by
    have T := F w mg h kin G
    obtain ⟨f0, fd0, S0⟩ := T.d_law
    have e := S0.at_.symm.trans (nm ▸ here)
    cases e
    refine ⟨fd0, fun s u => ?_, fun base => ?_⟩
    · obtain ⟨oc, od, kV, doc, pm, an, cdv, ct, osl, rfl, _⟩ := S0.fn.ex
      exact .of_eq rfl
    · obtain ⟨f1, fd1, R, S1⟩ := D_law (P := l.prog) (w := w) (base := base) T
      have e1 := S1.at_.symm.trans S0.at_
      cases e1
      have e2 : fd1 = fd0 := by
        obtain ⟨oc, od, kV, doc, pm, an, cdv, ct, osl, rfl, lk, _⟩ := S0.fn.ex
        obtain ⟨oc', od', kV', doc', pm', an', cdv', ct', osl', rfl, lk', _⟩ := S1.fn.ex
        rw [lk] at lk'
        cases lk'
        rfl
      rw [← e2]
      exact R) fun K H a ns hl hS => ⟨a, ns, rfl, hS, hl, fun _ => rfl⟩
theorem kit_ref {K : PySem.W.Frag} {C CH : Addr} (h1 : PySem.W.hasDictIn K CH = true) (h2 : PySem.W.typeIn K (.ref CH) = some (.type "type")) (h3 : PySem.W.subIn K (.ref C) (.ref CH) = some true) : PySem.W.kitOne K (.ref C) (.ref CH) = some true := by
  obtain ⟨cd, hc, _⟩ := PySem.W.any_some h1
  unfold PySem.W.kitOne
  split
  · rfl
  · show (if ((PySem.W.clsIn K CH).isSome && PySem.W.typeIn K (.ref CH) == some (.type "type")) = true then PySem.W.subIn K (.ref C) (.ref CH) else none) = some true
    have e : ((PySem.W.clsIn K CH).isSome && PySem.W.typeIn K (.ref CH) == some (.type "type")) = true := by rw [hc, h2] <;> rfl
    rw [if_pos e]
    exact h3
/-- the own errors of the text -/
theorem exc_of {K : PySem.W.Frag} {mg : Str → Option Value} {h : Heap} {C CH : Addr} (X : K.In h) (G : h.Ns mainGlobals mg) (a1 : PySem.W.nsIn K mainGlobals "Unfit" = some (some (.ref C))) (a2 : PySem.W.nsIn K mainGlobals "HeldError" = some (some (.ref CH)))
    (x1 : PySem.W.excIn K C [.type "ValueError", .type "Exception", .type "BaseException", .type "object"] "ValueError.__new__" = true) (x2 : PySem.W.keepIn K (.ref C) = true) (x3 : PySem.W.subIn K (.ref C) (.type "BaseException") = some true) (x4 : PySem.W.typeIn K (.ref C) = some (.type "type")) (x5 : PySem.W.hasDictIn K C = true) (x6 : PySem.W.subIn K (.ref C) (.ref C) = some true)
    (y1 : PySem.W.findIn K (.ref C) "__getattribute__" = some (some (.builtin "BaseException.__getattribute__"))) (y2 : PySem.W.findIn K (.ref C) "__getattr__" = some none) (y3 : PySem.W.findIn K (.ref C) "__class__" = some (some (.builtin "object.__class__")))
    (y4 : PySem.W.specialIn K (.builtin "object.__class__") "__get__" = some (some (.builtin "getset_descriptor.__get__"))) (y5 : PySem.W.takesIn K (.builtin "object.__class__") = some true) (y6 : PySem.W.mroIn K C (.type "object") = some true)
    (z1 : PySem.W.hasDictIn K CH = true) (z2 : PySem.W.typeIn K (.ref CH) = some (.type "type")) (z3 : PySem.W.subIn K (.ref C) (.ref CH) = some true) :
    ∃ C CH, OwnExc K mg "Unfit" C ∧ mg "HeldError" = some (.ref CH) ∧ PySem.W.kitOne K (.ref C) (.ref CH) = some true :=
  ⟨C, CH, ⟨PySem.W.mg_of X G a1, x1, x2, x3, x4, x5, x6, ⟨y1, y2, x3, x5, y3, y4, y5, y6⟩⟩, PySem.W.mg_of X G a2, kit_ref z1 z2 z3⟩
end L2.Hx

open PySem PySem.W PyProof.Rows in
set_option maxRecDepth 100000 in
set_option maxHeartbeats 0 in
theorem PySem.Challenge.cw_heldapart_k66_whole_clauses_of_cases_holds : PySem.Challenge.rw_heldapart_k66_whole_clauses_of_cases.Holds := by
  w_on; o_law; k_head; (case hw => w_witness2)
  k_fill
  refine L2.Hx.da_walk (l := PySem.Challenge.rw_heldapart_k66_whole_clauses_of_cases) rfl rfl rfl (fun w h Y => PySem.W.kIn_of Y) ?F
  case F =>
    intro w mg h KX G
    have b_ValueError : mg "ValueError" = none := by
      refine PySem.W.mg_none_of KX G ?_
      k_is
    have b_dict : mg "dict" = none := by
      refine PySem.W.mg_none_of KX G ?_
      k_is
    have b_enumerate : mg "enumerate" = none := by
      refine PySem.W.mg_none_of KX G ?_
      k_is
    have b_int : mg "int" = none := by
      refine PySem.W.mg_none_of KX G ?_
      k_is
    have b_isinstance : mg "isinstance" = none := by
      refine PySem.W.mg_none_of KX G ?_
      k_is
    have b_len : mg "len" = none := by
      refine PySem.W.mg_none_of KX G ?_
      k_is
    have b_list : mg "list" = none := by
      refine PySem.W.mg_none_of KX G ?_
      k_is
    have b_max : mg "max" = none := by
      refine PySem.W.mg_none_of KX G ?_
      k_is
    have b_range : mg "range" = none := by
      refine PySem.W.mg_none_of KX G ?_
      k_is
    have b_repr : mg "repr" = none := by
      refine PySem.W.mg_none_of KX G ?_
      k_is
    have b_set : mg "set" = none := by
      refine PySem.W.mg_none_of KX G ?_
      k_is
    have b_sorted : mg "sorted" = none := by
      refine PySem.W.mg_none_of KX G ?_
      k_is
    have b_tuple : mg "tuple" = none := by
      refine PySem.W.mg_none_of KX G ?_
      k_is
    have b_zip : mg "zip" = none := by
      refine PySem.W.mg_none_of KX G ?_
      k_is
    have e_Unfit : ∃ C CH, L2.Hx.OwnExc (L2.KOf KX) mg "Unfit" C ∧ mg "HeldError" = some (.ref CH) ∧ PySem.W.kitOne (L2.KOf KX) (.ref C) (.ref CH) = some true := by
      dsimp only [L2.KOf]
      refine' L2.Hx.exc_of KX G ?a1 ?a2 ?x1 ?x2 ?x3 ?x4 ?x5 ?x6 ?y1 ?y2 ?y3 ?y4 ?y5 ?y6 ?z1 ?z2 ?z3
      (case a1 => k_is)
      (case a2 => k_is)
      (case x1 => k_exc)
      (case x2 => k_is)
      (case x3 => k_is)
      (case x4 => k_is)
      (case x5 => k_is)
      (case x6 => first | rfl | k_is)
      (case y1 => k_is)
      (case y2 => k_is)
      (case y3 => k_is)
      (case y4 => k_is)
      (case y5 => k_is)
      (case y6 => k_is)
      (case z1 => k_is)
      (case z2 => k_is)
      (case z3 => k_is)
    have d_clause_of : ∃ f fd, L2.Hx.Src (L2.KOf KX) mg "clause_of" L2.Hx.s_clause_of ["names", "case"] f fd := by
      dsimp only [L2.KOf]
      refine' L2.Hx.src_of KX G ?e1_15 ?e2_15 ?e3_15 ?e4_15 (fun _ _ _ _ _ _ us hl => match us, hl with | [_, _], _ => rfl)
      (case e1_15 => k_is)
      (case e2_15 => k_is)
      (case e3_15 => k_is)
      (case e4_15 => k_is)
    have d_l_deck : ∃ f fd, L2.Hx.Src (L2.KOf KX) mg "_law_deck" L2.Hx.s_l_deck ["script"] f fd := by
      dsimp only [L2.KOf]
      refine' L2.Hx.src_of KX G ?e1_16 ?e2_16 ?e3_16 ?e4_16 (fun _ _ _ _ _ _ us hl => match us, hl with | [_], _ => rfl)
      (case e1_16 => k_is)
      (case e2_16 => k_is)
      (case e3_16 => k_is)
      (case e4_16 => k_is)
    have d_l_draw : ∃ f fd, L2.Hx.Src (L2.KOf KX) mg "_law_draw" L2.Hx.s_l_draw ["deck", "many"] f fd := by
      dsimp only [L2.KOf]
      refine' L2.Hx.src_of KX G ?e1_17 ?e2_17 ?e3_17 ?e4_17 (fun _ _ _ _ _ _ us hl => match us, hl with | [_, _], _ => rfl)
      (case e1_17 => k_is)
      (case e2_17 => k_is)
      (case e3_17 => k_is)
      (case e4_17 => k_is)
    have d_l_pick : ∃ f fd, L2.Hx.Src (L2.KOf KX) mg "_law_pick" L2.Hx.s_l_pick ["deck", "items"] f fd := by
      dsimp only [L2.KOf]
      refine' L2.Hx.src_of KX G ?e1_18 ?e2_18 ?e3_18 ?e4_18 (fun _ _ _ _ _ _ us hl => match us, hl with | [_, _], _ => rfl)
      (case e1_18 => k_is)
      (case e2_18 => k_is)
      (case e3_18 => k_is)
      (case e4_18 => k_is)
    have d_l_mixed : ∃ f fd, L2.Hx.Src (L2.KOf KX) mg "_law_mixed" L2.Hx.s_l_mixed ["deck", "items"] f fd := by
      dsimp only [L2.KOf]
      refine' L2.Hx.src_of KX G ?e1_19 ?e2_19 ?e3_19 ?e4_19 (fun _ _ _ _ _ _ us hl => match us, hl with | [_, _], _ => rfl)
      (case e1_19 => k_is)
      (case e2_19 => k_is)
      (case e3_19 => k_is)
      (case e4_19 => k_is)
    have d_l_worth : ∃ f fd, L2.Hx.Src (L2.KOf KX) mg "_law_worth" L2.Hx.s_l_worth ["store"] f fd := by
      dsimp only [L2.KOf]
      refine' L2.Hx.src_of KX G ?e1_20 ?e2_20 ?e3_20 ?e4_20 (fun _ _ _ _ _ _ us hl => match us, hl with | [_], _ => rfl)
      (case e1_20 => k_is)
      (case e2_20 => k_is)
      (case e3_20 => k_is)
      (case e4_20 => k_is)
    have d_l_takes : ∃ f fd, L2.Hx.Src (L2.KOf KX) mg "_law_takes" L2.Hx.s_l_takes ["part", "worth", "cells"] f fd := by
      dsimp only [L2.KOf]
      refine' L2.Hx.src_of KX G ?e1_21 ?e2_21 ?e3_21 ?e4_21 (fun _ _ _ _ _ _ us hl => match us, hl with | [_, _, _], _ => rfl)
      (case e1_21 => k_is)
      (case e2_21 => k_is)
      (case e3_21 => k_is)
      (case e4_21 => k_is)
    have d_l_is_so : ∃ f fd, L2.Hx.Src (L2.KOf KX) mg "_law_is_so" L2.Hx.s_l_is_so ["look", "worth"] f fd := by
      dsimp only [L2.KOf]
      refine' L2.Hx.src_of KX G ?e1_22 ?e2_22 ?e3_22 ?e4_22 (fun _ _ _ _ _ _ us hl => match us, hl with | [_, _], _ => rfl)
      (case e1_22 => k_is)
      (case e2_22 => k_is)
      (case e3_22 => k_is)
      (case e4_22 => k_is)
    have d_l_dealt : ∃ f fd, L2.Hx.Src (L2.KOf KX) mg "_law_dealt" L2.Hx.s_l_dealt ["clause", "worth", "cells"] f fd := by
      dsimp only [L2.KOf]
      refine' L2.Hx.src_of KX G ?e1_23 ?e2_23 ?e3_23 ?e4_23 (fun _ _ _ _ _ _ us hl => match us, hl with | [_, _, _], _ => rfl)
      (case e1_23 => k_is)
      (case e2_23 => k_is)
      (case e3_23 => k_is)
      (case e4_23 => k_is)
    have d_l_is_true : ∃ f fd, L2.Hx.Src (L2.KOf KX) mg "_law_is_true" L2.Hx.s_l_is_true ["saying", "worth", "cells"] f fd := by
      dsimp only [L2.KOf]
      refine' L2.Hx.src_of KX G ?e1_24 ?e2_24 ?e3_24 ?e4_24 (fun _ _ _ _ _ _ us hl => match us, hl with | [_, _, _], _ => rfl)
      (case e1_24 => k_is)
      (case e2_24 => k_is)
      (case e3_24 => k_is)
      (case e4_24 => k_is)
    have d_l_numbered : ∃ f fd, L2.Hx.Src (L2.KOf KX) mg "_law_numbered" L2.Hx.s_l_numbered ["home", "ways"] f fd := by
      dsimp only [L2.KOf]
      refine' L2.Hx.src_of KX G ?e1_25 ?e2_25 ?e3_25 ?e4_25 (fun _ _ _ _ _ _ us hl => match us, hl with | [_, _], _ => rfl)
      (case e1_25 => k_is)
      (case e2_25 => k_is)
      (case e3_25 => k_is)
      (case e4_25 => k_is)
    have d_l_any_case : ∃ f fd, L2.Hx.Src (L2.KOf KX) mg "_law_any_case" L2.Hx.s_l_any_case ["deck", "names", "nameless"] f fd := by
      dsimp only [L2.KOf]
      refine' L2.Hx.src_of KX G ?e1_26 ?e2_26 ?e3_26 ?e4_26 (fun _ _ _ _ _ _ us hl => match us, hl with | [_, _, _], _ => rfl)
      (case e1_26 => k_is)
      (case e2_26 => k_is)
      (case e3_26 => k_is)
      (case e4_26 => k_is)
    have d_l_heap : ∃ f fd, L2.Hx.Src (L2.KOf KX) mg "_law_heap" L2.Hx.s_l_heap ["deck", "case", "most"] f fd := by
      dsimp only [L2.KOf]
      refine' L2.Hx.src_of KX G ?e1_27 ?e2_27 ?e3_27 ?e4_27 (fun _ _ _ _ _ _ us hl => match us, hl with | [_, _, _], _ => rfl)
      (case e1_27 => k_is)
      (case e2_27 => k_is)
      (case e3_27 => k_is)
      (case e4_27 => k_is)
    have d_l_homes : ∃ f fd, L2.Hx.Src (L2.KOf KX) mg "_law_homes" L2.Hx.s_l_homes ["names"] f fd := by
      dsimp only [L2.KOf]
      refine' L2.Hx.src_of KX G ?e1_28 ?e2_28 ?e3_28 ?e4_28 (fun _ _ _ _ _ _ us hl => match us, hl with | [_], _ => rfl)
      (case e1_28 => k_is)
      (case e2_28 => k_is)
      (case e3_28 => k_is)
      (case e4_28 => k_is)
    have d_l_rows : ∃ f fd, L2.Hx.Src (L2.KOf KX) mg "_law_rows" L2.Hx.s_l_rows ["spots"] f fd := by
      dsimp only [L2.KOf]
      refine' L2.Hx.src_of KX G ?e1_29 ?e2_29 ?e3_29 ?e4_29 (fun _ _ _ _ _ _ us hl => match us, hl with | [_], _ => rfl)
      (case e1_29 => k_is)
      (case e2_29 => k_is)
      (case e3_29 => k_is)
      (case e4_29 => k_is)
    have d_l_put_in : ∃ f fd, L2.Hx.Src (L2.KOf KX) mg "_law_put_in" L2.Hx.s_l_put_in ["home", "ways", "part", "spots"] f fd := by
      dsimp only [L2.KOf]
      refine' L2.Hx.src_of KX G ?e1_30 ?e2_30 ?e3_30 ?e4_30 (fun _ _ _ _ _ _ us hl => match us, hl with | [_, _, _, _], _ => rfl)
      (case e1_30 => k_is)
      (case e2_30 => k_is)
      (case e3_30 => k_is)
      (case e4_30 => k_is)
    have d_l_pictures : ∃ f fd, L2.Hx.Src (L2.KOf KX) mg "_law_pictures" L2.Hx.s_l_pictures ["names", "saying"] f fd := by
      dsimp only [L2.KOf]
      refine' L2.Hx.src_of KX G ?e1_31 ?e2_31 ?e3_31 ?e4_31 (fun _ _ _ _ _ _ us hl => match us, hl with | [_, _], _ => rfl)
      (case e1_31 => k_is)
      (case e2_31 => k_is)
      (case e3_31 => k_is)
      (case e4_31 => k_is)
    have d_l_clause_of : ∃ f fd, L2.Hx.Src (L2.KOf KX) mg "_law_clause_of" L2.Hx.s_l_clause_of ["case"] f fd := by
      dsimp only [L2.KOf]
      refine' L2.Hx.src_of KX G ?e1_32 ?e2_32 ?e3_32 ?e4_32 (fun _ _ _ _ _ _ us hl => match us, hl with | [_], _ => rfl)
      (case e1_32 => k_is)
      (case e2_32 => k_is)
      (case e3_32 => k_is)
      (case e4_32 => k_is)
    have d_l_heard : ∃ f fd, L2.Hx.Src (L2.KOf KX) mg "_law_heard" L2.Hx.s_l_heard ["names", "case", "is_named"] f fd := by
      dsimp only [L2.KOf]
      refine' L2.Hx.src_of KX G ?e1_33 ?e2_33 ?e3_33 ?e4_33 (fun _ _ _ _ _ _ us hl => match us, hl with | [_, _, _], _ => rfl)
      (case e1_33 => k_is)
      (case e2_33 => k_is)
      (case e3_33 => k_is)
      (case e4_33 => k_is)
    have d_law : ∃ f fd, L2.Hx.Src (L2.KOf KX) mg "law" L2.Hx.s_law ["script"] f fd := by
      dsimp only [L2.KOf]
      refine' L2.Hx.src_of KX G ?e1_34 ?e2_34 ?e3_34 ?e4_34 (fun _ _ _ _ _ _ us hl => match us, hl with | [_], _ => rfl)
      (case e1_34 => k_is)
      (case e2_34 => k_is)
      (case e3_34 => k_is)
      (case e4_34 => k_is)
    exact ⟨b_ValueError, b_dict, b_enumerate, b_int, b_isinstance, b_len, b_list, b_max, b_range, b_repr, b_set, b_sorted, b_tuple, b_zip, e_Unfit, d_clause_of, d_l_deck, d_l_draw, d_l_pick, d_l_mixed, d_l_worth, d_l_takes, d_l_is_so, d_l_dealt, d_l_is_true, d_l_numbered, d_l_any_case, d_l_heap, d_l_homes, d_l_rows, d_l_put_in, d_l_pictures, d_l_clause_of, d_l_heard, d_law⟩

