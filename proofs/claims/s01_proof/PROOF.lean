import PyProof.Rows.All
import Wide.All
import OpenK.AllK
import Wide.FinOn
import PyProof.EqAt
import PyProof.EqKinds
import PyProof.TupleCall
import KE.BitLaws
import Open.SpecLaws
import KE.OsHead
import KE.OsGo
import PySem.Challenge.RW_openlimits_s01_answers
import KE.IntTextLaws
import KE.KIntText
import KE.KLam
import KE.KSortKey
import KE.KSortTupG
import OpenK.KOwn
import PyProof.ListRange
import PyProof.Rows.Digits
import PyProof.Rows.StrItems
import PyProof.Rows.StrNews2
import PyProof.StrLawsTight
import PyVbptaa
set_option Elab.async false
set_option linter.all false
set_option maxRecDepth 100000
set_option maxHeartbeats 2000000
open Array renaming length_toList->Tw
open Bool renaming false_ne_true->SM,and_eq_true->S9,noConfusion->To,eq_iff_iff->TV,and_false->Ub,or_eq_true->Us,or_false->Ut
open Classical renaming byContradiction->S7
open False renaming elim->TD
open Int renaming toNat_natCast->So
open List renaming length_map->w4,mem_cons->Sg,mem_cons_of_mem->Sh,length_cons->Si,mem_cons_self->Sk,getElem?_eq_some_iff->Sl,length_append->Sq,getElem?_eq_getElem->Ss,size_toArray->Sv,map_append->Sw,mem_singleton->SB,mem_of_getElem?->SE,not_mem_nil->SI,getElem?_map->SO,length_drop->SQ,range->SR,mem_append->SU,take_length->SX,map_cons->S1,length_take->S8,append_nil->Td,mem_map->Te,filter_cons_of_neg->Tf,all_eq_true->Th,lookup_cons->Tn,append_assoc->Tq,getElem?_of_mem->Tt,mem_append_right->Tz,contains_iff_mem->TB,drop_drop->TF,nodup_cons->TH,pairwise_iff_getElem->TK,length_range->TN,mem_range->TU,filter_cons_of_pos->TW,map_map->T2,length->T7,pairwise_cons->T_,mem_filterMap->Ua,take_append_drop->Uc,any_cons->Uh,length_eq_zero_iff->US,getElem?_drop->Um,range_succ->Uq,length_nil->Ur,lookup->UB,any_eq_true->UF,mem_or_eq_of_mem_set->UI,mem_of_find?_eq_some->UJ,filterMap_cons->UK,length_set->UO,find?_cons->UP
open Nat renaming le_refl->Sf,le_trans->SA,lt_of_lt_of_le->SS,zero_le->SW,lt_irrefl->Tr,ne_of_lt->Tu,le_of_lt->T6,not_lt_zero->Ug,lt_succ_self->UH
open Option.some renaming inj->Sd
open Or renaming inl->Tk,inr->Tp
open PyFlat renaming calls->T4
open PyProof.Rows renaming boot_max->Tj,boot_min->Uj,callWith_type1->Ul
open PySem renaming Addr->KE,Value->UU,Shared->Se,wpAny_bind->Su,Program->SN,mem_of_lookup->SY,boot_len->S0,wpAny_pure->S6,World->S_,Heap->Ti,Around->Tl,wpAny_mono->TJ,NameKind->Ue,FuncData->Uf,wpAny_Call_Name_kw->Uv,wpAny_passesOwn->Ux,Scope->Uz,wpAny_truthy_bool->UC
open PySem.Builtin.List renaming listTooLong->T9
open PySem.Builtin.Range renaming rangeSize->UA
open PySem.Builtin.Str renaming strSliceIndices->Tc
open PySem.F renaming plainAttrs_list->Sr,slot_list_append->SD,type_list_append->SF,slot_list_pop->T1,slot_list_extend->T5,type_list_pop->T8,type_str_startswith->Uo,slot_str_startswith->Up,type_list_extend->UG
open PySem.Heap renaming get?_push_of_some->Sn,lt_size->SK,get?_push_size->SL,size_push->TQ
open PySem.NameKind renaming free->UE
open PySem.Obj renaming mapSeq->TC
open PySem.PassesOwn renaming leaving->Ta,never->Tb
open PySem.Str renaming ofString->Sj
open PySem.StrLaws renaming sliceText->T0
open PySem.Txt renaming startswith->Uk,split->Uu,startswith3->UD
open PySem.Value renaming ref->Sy,none->Uy
open PySem.W renaming Frag->UT,mg_of->SH,fnOf->Ts,findIn->TM,keepIn->TX,emptyDict->TY,hideAll->TZ,instObj->Ud,of_hideAll->UL,callWith_K->UM,nsIn->UQ,codeIn->UR
open PyVbptaa renaming shape->Tg
open Sum.inl renaming inj->Ui
open Vbptaa renaming within->Sm,«ints»->Sz,isDigit->SJ,Text->SV,Act->Uw,step->UN
open VbptaaCore renaming feasts->Tv
open VbptaaCore.Said renaming feast->T3
section
local macro_rules|`(command|universe $_x:ident)=>Lean.withRef .missing do
  let l:=r"FGlBKLakX\TLHgdwGYihgNRuXn_NtWHgiQBHcJV\bfE[\i_npkOEvATgaPx\jMrLGBSHvQtD[IbZiBDklkW]c_ClS^xUZPBUqOd^rjcnjPfP`qCL[gNAgmvbXmxrWGiglvKcnncbV[[mKxS^FKRFKhrhiglUWMwHLqLV_VsYJQSeXBX_WuKxhjxJ`mPMRE_BBc_[gbV\riIcvccbE]^biFvGsOteovm\aYOQJqNWxM[_GrEIkOHwXTxe\]KOpQSmkS_nlEoL][xXZmRllTVhZaPNLEcpueitcoIP[Yuk]rIqliJdnIjx^WqLa[MlfhdpCUWJ^oZyP_YXlfTjaEdGZJgmm\VZeBn`C_QkHSPuVCAUAoDhFQOmPSpKbLWE\EumwBedvWsSGnCDbVxRPRtWcvSFCP^pCCmGuFddkDGeGGJNlHatA`accPAiP_^hkMtBAQnK]rkBR`wLnfmUmbGRldqnf[^hhQF`\hjHjxUaUabi`gKHuYRpSjbFn_LneC^cief`t]PWPMUYtMRFmS``jqm`HeyTSY]GMrZTbXY__Wf`LSLIMjIwZPHLK[XGEl`fPHIxPrbpddVlqvyehaWLTqFsCmD\^WPyCDVwShQaELqJSBsVkAkBQvXmOHbxxX_MtPkiuRIuYUg\LnMHMLw^axF\uXOAWfsEjblvPJTOC[REpfnTEJud]GAgoBgPHEItcCpguLkqY_TDXHmyrIWiQaXbjRTtT`afkKGUUD_q_LhsCgGCYKdendNSZjBBeXZZIFRy`brMB`hGrAagXpRHAaODSfYheAcCBblAnwdlXWZSlARTWNiUNpyghNSfFlhesiurcdIG`ZbQCNBgaDutHmbIXCJGrFcWNCtkCTH]fgAAyQDnMvouKDmOXW^leRnkaVdmqFKVXjiuhxudJQbeepwlkbFnap^LOqwMWE\Xw\lntAMskAZsHGuJbqPtkSoS`ktwVNvyFafbv[QxoFeSr^cVJ[X\fEf[LOlmGkKfRXPveTuyfBHjbhbeo_]tWVDnTdP^CJZsFKGQrdMctBoRBHRnolZP[uLJnMmmwmDcjhhDD\YJWHnXjccfMW\lNIsgMSrIdaSgvexHnY^u_XhYLNkU\yfXk[pY[fPjyotCHEwen\mNYxbu[mPG_wlpsmRrKUBUqVkoQfJfiPiqwYd`abka[MbdxNdHGCGODlgMgNBexhQRMFlmQrhuOShF[cfUHjd_Vc[rbspSj_osjl_QCRkEvFb^ET[sHmrZTvCHZHN^yGbH]LAmGsO[OwtydnLqttamAmJ\^s\XEcI^yDbCrHT\ftBnaaWUddnsIFx^Io[GjOYAvB]DrTjJlCSEAthQkC\bL\HlRDK^m\iohO]ykMSELEaGNsiDySvOEmneEhgkJif]Eg^rwOTBW`qKUOFnKevPBZ]CwkLFJpRmpIqYetBPJDrByd[u\RKOJjAX]jHAPCtOkjm_]KaY]CGUBrqtVXkqQWOHy[wCHO\eCjIXTDdvODEAXDwbvebErvu]xPaExjgXyfkXiXFAecHdjBTS]uoqkEJirZGwCBSkxxB[HCrBmLfmHXFWMhGbpGLjP\]mZe_yPtNpeXyQHvV`M[sOe`l_t`UDcXTrYHw^YM\]W`]MiPWgYHuEN^nWrCIaCnKO[IfNHBQ\wKlAoWBFJdVcbsn]yn`GNDB_TUkPeMmLaVLxGpBibQ_VJ]OItLkdBstLvM\yEO_wZrE\fsHEhsFRPK`F\Sx^jZEpqVJ`ULGwrREIRFkYr_`PhhGgC^GmLCBJTah^IubhNLYGTKRyDyhKdoHXxWM^IyaNKF[urtPmpup^Ld^CUwJSqJ`ZLAt_d^_pGFSGeXr_KQsifMB[^KDE_`JB^m[BbiiluwbWWn`yCOZ]KohyxYvKmJgpKZHKSDtZoE[MGqW`HMejrhZpvfBQSSruLij^CYnFMcGqnlmDbRjuTyNeafcrUaOqXOK[eetubbBd\pQOeTWmVFhW`chlIZLSYknRTOZw_chcobZnOKsjr]HbriinkHN\C]^bBeZMcl`yFj_NabLtNa^VPBruclZlF`OjuE^wePeDh`O_fsAXgqyisnUdWhIk]bMdIXEKlvTCKvlBUj]rphOMrt^fgwEHTUPGGkPVa^Vy^exmmcobXdggNrITbZtESg]`RAYEWTUNwBfeYsUTC^fWEpJy`W_A]sdHeYQgUfXghtSGKWgvqpsFGIJu`NrHh]R^_FPWlDlYmiVlmcE[_QVSoQFQtuggCbuS_HJ`JyWlwoyxptwfCnmTswtFweO`Oiu^htpWIcBMfo_oMZpKmi\VwwFAgyqLLCqLXLEkyB_hD_wSUWjh]gFlQVDLcam^SLKUOhqlcBP\WXXlofiub_somquNq]fXeynUh][VUMqMnjKGnmrsQIty`ud_BMgSWciHQIkLUqCXRN_hh\SRXlfUJVqUHAgZIrXUv\ZvflkZSeaWfegKIAIaQWWKMKmf]eWtZpfRoVKPgORa^XRiVvIMynsJYIIhjLitgLPwAAvREWGuvIfViIBOKnhaYg]mcwIn`fFlJNNOFhYIqpXkjQAiixifXaTjXDqf^CxWPeja_`soknr]lPin`^q[VUvP_YtPf`l_iyOpGkZkNsqDnDVDpsvKMxilkskci[Vs]XDwCORB]H\YWnBH`v_eGRSPHXqGtET[qrbcBidErgqdxvhNSkELEOUvAygdWvoNtDtDEHJulhbIw^udUGCYAGkipi]YFQCnZPcJrrTBRvndLNc\ZabvIRurPjOklP_^mDJOnrL[birdDhoZfOJ\VGmPKdLGBMJsyvpG\bsc^jARcfNYUarUZGTTvnVpCdQcXyfeHIcnAJUapRcJU_ZSkPRaDXIxdXLKhmx^uLMGkIc^FjxVmAw_OymI`Ini[i[shEop\BORKRoi\fil_a\[RBPq`wUXe\kTXY\tleDXxk`_QO]krXRKT[XG]]CGXSyGPGPrmASkSbbiSbZ`pssr\R[EAlDoV\ZElxiBVDk\EY]FpVGCCDgFMLhJbJVdGGq]\lFIBqZhjrYSBYoqEoJef_WnqLsHSfF\PNtPZRfRJobmvKrdDmjwfNeLUfrLn\tJQ\IPyx[gLwA\OwdMHkZDlXD]oTAHuj^^fihyQYXJgvA[GxuuyDDUIVTsO_LKo\IZNvSay\JdRDQsAvOTOvQ_C\nsfC\tMiSg]UAjqtk^Po]CIUlDYLbQA_gtAQsOITn^ce[[FXYyALy\bNrdRUVmaEcoMvkeBFXNDmOhYVYXvJCPdwHrMXXOixWWWThxbuMpG]Mo`R]FVOlwIGW_ApR\vSHCas[jiYkTejODXPNN_exgrJHKTZOISY[ncpRamUftwd^oliCBZLyTRydFxS[BgceoNLjp`qOTGbZYMHr[eq[tOdGGOvOoXTERSkrVOBjAiW[vRKhpqd^HcTS[qNRTsu\[Ul[ypMcoIpkZGDvWLU\YVXjh^tnMALiyGWjwWFfP\IhxPKwLjJMJHr\FS\WNrewnsTupsC^y__CjT[EZbdercgcBhmZ\^KA[jAxDxeKaDEuJpAKxGfj^[E^XFaCDRbMj`]GpatPaPYYX]KEAyvlXQYEGBQ\GWu`hhpiNDoTauPGfQhI\pr`qYvHSReoryj\PLhoJZHi_yNcoLELjOVpEpBxebcNgLbkJBiJEDXtMUsx]\weBCPxwBqkQZaipZgoggVOM[QRdpaXYeY^ookcuIJdcLlMM]NwsHMlOLMmw^sxtPkbEuv_uYwp\nuXlq^vdNguUK\_youWyE[lF\LwjwBXRHdLXsLmq^QmCKevfkUcVSQbQNrfucVPses^LhHIkIbTD_D`Br`iQICyn_oMheqcmXiwNwvI_^sfbvSEByjaRPGtltfwPQ_qv_n]XcPa^mXJROOorDhVTmcgCRoDgGggKEHp^QbVWRYIqebyOECcpf^Y\WwnJSTk]qDQSVhFtdvoUtrcfyDVTXoLBnR_KMUuQhTFOooBLlPSUgTmXwqAtXLGji^EGuTrf`ytcLLlcKwqK_HAEt\xNxLVmPFgqQAHelmyRqie_f^hi]MuhysenCMfuvflwA\WSwBfrDnftt\YTrtMiAb_TESRZo^eUJx[I`mo`RB`hKVwHBfs^UvoIRF[wx`smHcthq\q^fmTppXS\F_ydteoCKa`Zq]lvgVXmTUEhVmWTlJocTKswXTTyGINYAQrg[\YwNQEVu]vEYpibmtKDyiU]FriqdmEIssYlTnvg`eTPPdx]XDsglxhlJuNnsg[QJdRCjNrqAMFwW\JACbOQCbNrPUvXHCLlwmMsAxDkLhVWqMrWDxreW`H^IHwGHXiupGjqfgH\kwSd[dKgkXsFyOFAJYNQXEiwXS^CCD\^kIWAXLAgHo[vFlHFswlxhtaBKLjEFAOkW_HCjscrKf`[YsFUkP\MuDHZExoQDIhyXNIlixYLwKwemngRqJDVZmSfASTCZgd_P]FMjge\gYmaGyvcnW^IhyvWhFWeRBjxODNFXSBdFFqk^jSjmhcshpkGMeGnpWYuyxKN`fjBkTEYgggFYw\_`\cQUR\Yw[xGgfC`^ThGmD_OcVMcrTRetolFANoDKfpNZfKnWPcnnLXAAbUqQt[sTvOnxSDLXyPYYJDhCscJInC`hTdoR^cBeKAaRUyTUVuAVEMap[uHJhFLuEvgsXfUFPZe[XUr^cttVDNpq^yl_joDi_FN_WwpcreyO_YLnkIPBHVlMXGCGQPPpqAPsRhVDcMhhASva\SObrcJrAEFkWQGTRBaZZLLTUOWbE]fUTXXsktyJeSEvjIQqLcXJKtghGVqU^bj^SCaCvxKUA`Ztp^jgglLj`Y_wqgshKFK`iRNdZx[xj[mkErj^nsfaeTBSnrONoJu\LUETpLAuPaWQDFhaw]ZJeCrWkOsVIfTPwQ_wg[AnwFZwqPbbZwfaYSQNAYOrRP^Q]rBfuL_UwoDixfsrJZDJ[[JfyGIaBrUbCUvSEpkZrUGMpy`qgVuJ\yVFBtV]BrNM]RZbSVZ[KeARHYJREEsTcStP^XkCYdtUAkEtftqfhJHkTJUUcOhrUXGlcok``bnRxMluQXtqZSQcYAyPQlYb^AVYec^gvFj[BXqlRXkR`sKhbultQ]Jl[R_U_SmN_yHLh\TQFAOGjfYpCb`OSdLRnPdfTGDNjRhTnavCgF_soei]MunQwKo_\]TF]mYqqmBflIv`fkbmXLlofRvwFQwmnTCMeQt^MsMGQ]dOdk\SyL[rWSW^bmwnTqOmDtbuyUPmupoOmAAehmHfrT[PawLOdSguXnbdYkiMN]esENcE]RTXVZDjIAYk`s\ffsqUSZP`hVOiFv]QruVpOKwRvgArv[UCLmffhmXnqeqPWZycecTq]\wFPFvw]G\My^frrKQHrP`aGZoTjkuvGvjDxHqRSXlBVwUKiyYerKfgPPhXejRKfZaKOSkRQvyhdrYjhSyTaeqoLUn\IP\QOJyfU]EGPPA\kubsyCOumoghP\ue^cMbqhaAlBxYjOpfwJxElK^qbU\kNJTDgZjF\MoQdVBITqnA\fkQ^CtVogmjUP^Yrp`g`iLtdKVOb]V^VG``ZgbXqUEGLSvW_GWS_s^iNr`HQUNVSFslZHdXFLZFt^hSFMbVUOKHvClJjtA^PJZPJIi\pEGZN[fpqp_NfaVojAUnlQKuliH]ZaGupgqgXOfMGbd`b]RNVVqqqau`IE\V^arUVrSDMkjpTtoF[nBMBjx\Wr[jvxvGsYuE[yDSkjS[MTesmjSRT\kmvoHOYPKjBhFwg`HsFlGgJVbkxVCQVrPdyxGrNVUjP`ioWqSVsXKNjfPZE_xQpr`]D``NAbsTSoJb_Dk^jMQVe_[\bGVbSUJWohZc\BtQ^eJUOmKFoJNlek``fS]IdgfeXP`VDGxIRIRDeWFXDyVnBUfpeUM]drVc]sGWtfpnAXy\ghVJQyRaOhgYqDZqFD]^ycPlwEAUOWSMWB[emmeYZhUrjBgfeAqx\OkRAeb[b_EcTdHT\WmFhyoDfMlxMtt^WX^akThviS^pldPGoW]yZyt\ZitFe\mStgIrguOwxtUHKGpJcYnDbtoNnlTbeGpPOrV^MhV`amUFfY^BOdoFvnYCxMvZt]sfOdaRGlyrodnoW]YG]fu[XO\UErDIyO`[Ye\Sp`bAmIbhsP\HmZqio[uIb[NbJoNSJvWd[BNQ_lBVBEoBaiyeiZjw[xx[VNpPnJRQsxyFhBrodEqRhGEQDa[PkE_pD]YIuCTbiMuvptNVMX[UMroSCx_UYXQIFy[IGoasNNqGqLVWsFgb]inUceAFZRhLalCjoQCjLFJojTQFStArBFAawBrPtmRDiFH_fQOcsNhVR^_jwNWLOZBdvjLJpFLbNF^Ng_BDZJn_KetxcDZPWm_bNExbXdhTqHSRwkRqNdMPExSedHw]CHUTpvggCHsIUMfqykVpHPpX[FWiAYleRfOL[hwJ\lRbmqHWBo[_jrx\cyLQcHxtGX\_HutDnaIerm\SvNu[CLP^eo`n]UR`ZddVTumhSLM\^lVBEAJnfK^_CSBtdLWklvSuwUDKJDW^KTYmCy^UBwqqy`AEPSnTMoJCZsBxyRSNvGZlnZrqIXmoODpNgjUowGCskOdAcVEvVSm[LWmLUDtUCni[Wkd`ISfgqvU\gVOQVbDkpGoPImaw[JhJmIdyZeDm^KARlPIscKfOB^mqspCF\kMvhF_MgfOVKSIWxtEI^r_CFvT`uNQHmYR^NLuCqfFMdEAQtoxGCKjeurhmjvhud\qLNRdapDDaPHuAEnOuCfctWTfCbb_^uai]semTuM]My[EGgZhlCEvV\svVQm_Yg]qQQe^qAoJOlHLEEBYhKopqvEUXtK^A[OSQGUeTUyspcUL`WDaBT[GGxgZL_^VusAlf`SdUndUPPSqN_nUM^cdNjuMoQGNcviLXkIV\oUNpXrYbLOFJFbnUOThI_seRQnnNfpniLVMS`sEbEmT]pH`ufUhXRY^vNdOcqUdJhPYJNoOHfhDgc]atygmhxvw`jOmr]nPDk]axxRdWpNNmRiS\SEMxgLSPAGdiuDfKnA`qt_KwtqdKBjgBugHaRhkd_b\VhOcQRu_YNmRDbcMrsUdFGhOw_JEyv^JxnPkGq]ABioBrd`lTIOBppROa]VZChDXms^O_Ew]BRnpSpLEwWDpcOubaZ_tCBHlqpThOBkKWcFDbtdDE^Qqvc\llfsKohjQw^Jnje`JOrEMIkhSVIEw[`tiZewUQyXiJ`dZgDLCX[H[phADcGyIs\odXjlIjudLJOCZPCrfnqBIJ`RmA_m`WqhrxULiEJJ]OrWZUiMgCnIgboOjl]PARvFLTJUdamHmaOkHkCl_Yr\TgJC^aAS^yT`]`K\Il^a\WjbLXZfUKweyqDeQLU[uISd_qDcvCaemqWaBBbXxr]EjVEG__pnoyWgMU[rHNJmoBWUtumDxgLffP]RmftRJpW\fvSKbJCCBZI[yI\N]Tg[OaepDiTgZ^aF[BAVhP`X^BbAqwJPsSZTkAkIXCZP[Lu]IaRVF[lZnD[VJjqbDhlmcAtJIfZQOMveNZKsLpSYQTM_tLSiqFXoJIFmFKtxnALDs_\nyo`IFQJPtSM^OVyPeog[Vkibe`eTSpyliYvMndKOSwcGkjkPBxWoomjcMynBTGlEj\P]iMCFjkkgpPIPI\Jjuh\ZZwqNBFcQwWQt\ryiDftFrSmoSXSVFaWSK]lUoeUVRRYYqiua]oJPmjOvx[IHiNvIrxPmigWsCZL\IE\_JETWFuM`NIJqEMA\i[ZXCfvoRH_hiED^VLF[AbhfJsLlDqcRfSp`nXGvrQPcvRkBKhvRiWkghb`JkZA[kODsA^NTBHdVjFcQ^mxrKUQYGbsLOBiNyhB_o^`XPSPI\kXom]bc``d^tarSKipvk]KJHlOAovBOdfah`XPJhMnGdZ`phqRBlYaRN`EEFkZsUY\Hkn]oaWWsceFmeZLDtcAA`GHhi_gHEUsOmswF]AedkECYquJao`Rrgje`WrtBBT`xCuC\J`UPPqe[clnPtJ\iEvcokCtrtUTcBrYO`U]^ZEHWN^H\`yaRSD^gqfwgvlmWR[ZTaveL_IlOOEsNanxJufnyNoybRLOfh_e_VnnNyutR`V_SqSZtADGGSEtCyVoQ\bkip[D`M[HxjLrduNEh\NvxMJ_V[JknRNj[KeAUDvoLhADGf_BCtFgs^kbSo\ejeI\PbmFMk_uigDskJcrvriIWGal_xgxJ\lqwBocbadqBE]CLa`jltqcI_rO^kohrTBIIkaq`df`BOKgS[VigXRM_WWQeclQnsbQbwtV]gVWdslEyRmFiUCtuZqbOwCfvFsdTpSxpTQyqvZN\gLUYnVMEZiUUsNWXHGeKFty`BgTxoNjWC^XsDQESoEtdNMYIu[PNn^mftPGk]R\[LuAtb^ZLeXlVXXfXWRtoZVSpbmpPUumwmeiqaRrtFxjIkmSCTK\frKMdOjyUkCABV]VRqiHEvG^AoqUgwNprONxKeWayHB`avJe`CkDXddDQgF_[RBGccERPY`IKryouwOQ]fJSjvSupbhJ[LckmrLNoAN\AMyu`hQ`qaGdFgorxNO`DrUEmVeLgQD`PPuTZYhk\a`Epi_EmcOh\\VAuwkXcRJuDOhGfBcbFGBKKK^FFMcmhIcpKlGIgDIqCGmbPWXhwvGDn[dJ_si]VmAdMwgYDYtCEUgl]GTRaUTfcPouA[BWmnpThqm[cJELZROnMEWtiTL\N[SsoVFyIIc`Mde`MZ]LHcZlUbcSDbXThPjbLNu]HXXjdbAP[LHQnvdaFuylmsEZYpDjVmxd]y]vq[E]DhLKA[X_ZfohZEZW_C]Aqmm`UcDTukfLNwfnGnJHVvwTclN_XFqfDwrVe_wXkxbJfdBQenLItSkKv]YqFn^vXaMfkCkoAIyUvahdyhhKhnCoSuB^QLlStUbkWHkAp\BKAr^kaWc`AQZBokbBasKTrIW[BNJ`llfrEf^lMoS^_pAAmA\vq^rCMB^YBTWplVyjZEfjPjInUZULfxObNHMWYWIp^QhFdxeVR`^kcHXlYVh[YRYxfdNjbwQrJGIUWd\GBSCZYgKjLFGgche^YNc]UQ_bPmHFli[wbBLFBZgJiyNXQZdg[[rVcgMNlaSDlWWY[lbkHVxiSYBUU^dsMtvq[ubBGTAmBhowcN`akYEGHCuA\bjbEFPQv\vBZwRXQBtGk_OtMCBlqCxY_PeRCp`GBMBYZAeI_J`rKlMRdwRkB]Fws]^tVJOdEgyIEotpPkniHBfeFXsUsiESv_`g[cSE\mtwluunhm]hchDbAnXMfHMJZnydwon^q^oE_EnojlkZaRbIkKyoRrEsDTkfaSdPAM]`PqtbOcXYEWEVNui_[xAi\afhfafqOIPohmLciy[ebbjLcsEFbuwyN_nLPlAu^fOMiCYcTbdAHNa]nnYEfP_T[hpppnEmbRpBNOKg\np^jlymYkEsGvAspkKfnJtUiQjm_hmN_rt]HVEPJUcicoB`E`JHA\wxUAjfEnWakhrkIEFckcgIsdTlljUJZMtbFcytygosoqCifTakmkIVSQasMWFPLOVprOxmGluMUCTZfLYhJIomj]xfxuwwxQmdkid_Ze^FaDdBiJUY[SPRElKZQLEfhHAL_SxysQlnl`BGCPxCLBJae\`UAKHXuOVXlkKu]Zwp`SWIUsFW_m`CT\sAMjvZSaRt`HEvMiGnVAGwRe^pTrjdVnMe`RkYO[CXDwWRBJnhxl`TDog[ecr]PK]yUshaYZoRUlBHVGKeEi\VoQQkpLfCwFIfySSoeVFpkxDsML[h^C_oLvVLBIooS]HCCyDaaDkHvGEwxsXYKm^YsIYFDDbhxI[TOTvBsA[ki[tjMndpHKxJnYhC[QGeaZeycyJQFQGesJPwwAASBWSj[LyOC_TNokulxHyTEsfS[G^nIhlmjNuUpETxp]McojYX^XADPyWrH_ro\cd\MdFETB^di^ZGsgGcnYtPrrfHBG\c]DodrdbARFdFfMnVmHg]H`PlttCIgtaaWoniQqB]F\vHolRxLN\MNPR_bYTBrLgRxOvXUnPb`BxeDFeYkIgDloD^I`YZxfj]aeRpVtTbGaRFCSpjgHQMWKYETROF\cnYt[RpwWmjrhQmspgWKkowlDdH^jHspT\`sMvmfCbaUyQC\COxttkCIjiYMAKBfQYOylaZOYRB[hZMAFsGgmKhDMaX_LpFuaoByx]XNXRo]jOcRedcUFoFWKDRVTaiqEVtytXVwirWd\lu]FAc[mIHLkpP\BQ_UvMvCwxoEnJbyiNxHQYOEHPcTn]S]nKrBuBhueaCqTkQCFgjnogLh_AAdeagxxgGQSDPEIiangPGuUqlTW\uETarCJa`fJuGCJ]E]vscyUC]jjoDrwFl]FsjEHx]YICHjBkXdQy_nIFHJquJRcnSLKXYZPeNoJ\tpwQUuplFVZqEm`LeJ[iw[NttTyTbnJjv[rVe]`gbN^PngOdDyg`UKNngmfPPn`RaC_wOoXdflTpTsCIlxHydNqTlGDEQNwMb^JCgj[H\^yeGENSvfMsY[uuAt`abwcaWISDHfTk[rnaI`yJQRsnPhxiS]Y_dAVTnI[[yCrLGgddPylQYXDZRAfYAHcwLQPMOc_gO]ZrncxykpnKqAPQjlSxFisdoECi[Vlr`qRdPn]rL_DAdga`T`CSK^iXke`m]QiGitxHuu[NmUqDr_ZYxwETK^SQjGWAQoCixiK]gbHL[^ZhoJeUvhip[eMGLSQFuGlgPVgXDRuEsTutjW^MkQosRuZHxvEwdZRZhtjCsZQCwabJmXKNHEa^QgWiNRyUS\fqio\sHjTJycHspoeoTD_FZnTkFAiFvgcS_Zxag[SmOw_ZZBIUFStsTmYnMwp_ZO^ASbBvgARHDG^_][IjWR`cdiIteduRtUBelFVofk\XEQhjPUToDQbnGcMCwdaocvXMNcwy^Nnq]lNfhFTKNTZGTTn_\KIHAEmXEBTQ^CFhetQ\CHX_o\`R[sGDw[qkuQIJiCnm_MaPflGl`OwoX[gfaCH^PEXddyCOVTprgY`dGbwYqBwv]YYUWwNySxlmZVyiOiARkqjcZv`TyObIBkuRehLF[w_VFJhElGM^ZGRxyCc_nDnVOajoEwpCj^tca_yeyBjQGRJc]PhSUKj[vi`wYdrXGjbhVdVsReoE[Ziy^Uj[Q\DFd`dDFUaOIC`vwoNcXQ_X\sRNIENrhu^asQTPMJoblmRQ_SEhJnBCnoeWMscjIKiekPZCxM_UVdQHIZmXGZNGAPTWxdKCEBPniTwJVpu[]VqxZKcmmBhAPu_KbZfPgMv[ObtmlZUEXYLOUGqJEBNPgkHQej]Kq[y]KBiDGM]DsQgeyYWeNVrTNcsJndXiHoKQKda`gNcAtrjgUwClN`J]ELmQRpSgJkYxTy`GsewHF[`eHjcQlWRryCkUa`VuhQxZap]".toList
  let c←(List.range 1040).toArray.mapM λk=>let i:=Lean.mkIdent (.str `PySem.W.Fast s!"tw{((l.drop (11*k)).take 11).foldl (λa c=>a*57+(c.toNat-65)) 0}");`(command|theorem $i:ident:True:=trivial)
  return Lean.mkNullNode c
universe u
end
section
set_option genSizeOf false
local macro_rules|`(tactic|omega)=>`(tactic|lia)
local macro_rules|`(#[$x,$xs,*])=>`(⟨$x,$xs,*⟩)|`(#[$x])=>`(⟨$x⟩)
section
namespace OLm
end OLm
end
section
namespace L2
open PySem PySem.Spec PyProof.Rows
noncomputable abbrev Key:=Sum Int Str
noncomputable def qS:Key->UU->Bool
 | .inl k,v=>UU.isInt k v
 | .inr x,v=>UU.isStrOf x v
noncomputable def Kj (w:S_):Key->Int
 | .inl k=>hashInt k
 | .inr x=>hashStr w x
theorem cV:∀{k:Key} {v:UU},qS k v=true->(∃i t,k=Sum.inl i/\v=UU.int i t)\/(∃x t,k=Sum.inr x/\v=UU.str x t)
 | .inl i,v,h=>by obtain ⟨t,e⟩:=UU.isInt_shape (k:=i) (v:=v) h;exact .inl #[i,t,rfl,e]
 | .inr x,v,h=>by obtain ⟨t,e⟩:=UU.isStrOf_shape (x:=x) (v:=v) h;exact .inr #[x,t,rfl,e]
theorem Kl (a b:Int):decide ((Sum.inl a:Key)=Sum.inl b)=(a==b):=by
 by_cases e:a=b
 .subst e;simp
 .have h:¬(Sum.inl a:Key)=Sum.inl b:=λq=>e (Ui q);rw [decide_eq_false h];exact (beq_eq_false_iff_ne.mpr e).symm
theorem Km (a b:Str):decide ((Sum.inr a:Key)=Sum.inr b)=decide (a=b):=by
 by_cases e:a=b
 .subst e;simp
 .have h:¬(Sum.inr a:Key)=Sum.inr b:=λq=>e (Sum.inr.inj q);rw [decide_eq_false h,decide_eq_false e]
theorem Kn (a:Int) (b:Str):decide ((Sum.inl a:Key)=Sum.inr b)=false:=decide_eq_false nofun
theorem Ko (a:Str) (b:Int):decide ((Sum.inr a:Key)=Sum.inl b)=false:=decide_eq_false nofun
noncomputable def dq (prog:SN) (w:S_):PySem.KeyKind prog w Key where
 is:=qS
 hash:=Kj w
 inj:=λv a b ha hb=>by
  rcases cV ha with ⟨i,t,rfl,rfl⟩|⟨x,t,rfl,rfl⟩
  .rcases cV hb with ⟨j,u,rfl,e⟩|⟨y,u,rfl,e⟩
   .injection e with e1 _;rw [e1]
   .exact nomatch e
  .rcases cV hb with ⟨j,u,rfl,e⟩|⟨y,u,rfl,e⟩
   .exact nomatch e
   .injection e with e1 _;rw [e1]
 byValue:=λk v h=>by rcases cV h with ⟨i,t,rfl,rfl⟩|⟨x,t,rfl,rfl⟩<;>rfl
 pyHash:=λhv h=>by
  rcases cV hv with ⟨i,t,rfl,rfl⟩|⟨x,t,rfl,rfl⟩
  .exact wpAny_pyHash_int h
  .exact wpAny_pyHash_str h
 eqBool:=λhu hv h=>by
  rcases cV hu with ⟨i,t,rfl,rfl⟩|⟨x,t,rfl,rfl⟩
  .rcases cV hv with ⟨j,u,rfl,rfl⟩|⟨y,u,rfl,rfl⟩
   .rw [Kl] at h;exact wpAny_eqBool_int h
   .rw [Kn] at h;exact SeqAt.EqAt.int_str i t y u _ _ _ _ h
  .rcases cV hv with ⟨j,u,rfl,rfl⟩|⟨y,u,rfl,rfl⟩
   .rw [Ko] at h;exact SeqAt.EqAt.str_int x t j u _ _ _ _ h
   .rw [Km] at h;exact wpAny_eqBool_str h
 «strs»:=λk x t v h=>by
  rcases cV h with ⟨i,u,rfl,e⟩|⟨y,u,rfl,e⟩
  .exact nomatch e
  .injection e with e1 _;subst e1;cases v<;>rfl
end L2
namespace L2
open PySem PySem.Spec PyProof.Rows
inductive V where
 |bZ|bl (b:Bool)|int (i:Int)|str (x:Str)|BL (b:Array UInt8)|Pt (b:UInt64)|ref (a:KE)|ty (n:String)
 deriving DecidableEq
noncomputable def RelV:V->UU->Prop
 | .bZ,u=>u=Uy
 | .bl b,u=>u=UU.bool b
 | .int i,u=>∃t,u=UU.int i t
 | .str x,u=>∃t,u=UU.str x t
 | .BL b,u=>∃t,u=UU.bytes b t
 | .Pt b,u=>∃t,u=UU.float b t
 | .ref a,u=>u=Sy a
 | .ty n,u=>u=UU.type n
noncomputable abbrev Vals:List V->List UU->Prop:=Paired RelV
noncomputable def KV {κ:Type}:List (κ×V)->List (κ×UU)->Prop:=Paired λ(p:κ×V) (q:κ×UU)=>p.1=q.1/\RelV p.2 q.2
inductive HO where
 |lst (xs:List V)
 |tup (xs:List V)
 |dK (kvs:List (Key×V))|dT (kvs:List (List Key×V))
 |set (S:Int->Bool) (n:Nat)
 |ins (C dx:KE) (fs:List (Str×V))
 |own (x:KE)
 |xd (fs:List (Str×V))
 |met (f x:KE)
 |Fq (lo hi:Int)
 |u0 (o:Obj) (u:HO)
 |jC (ps:Array UU)
 |ext (φ:Ti->Prop)
noncomputable abbrev Hp:=KE->Option HO
noncomputable def Rd (H:Hp) (a:KE) (u:HO):Prop:=H a=some u\/∃o,H a=some (.u0 o u)
end L2
namespace L2
open PySem PySem.Spec PyProof.Rows
noncomputable def ij (K:UT) (H:Hp) (a:KE) (xs:List V):Prop:=
 Rd H a (.tup xs)\/
  ∃(o:Obj) (its:Array UU) (n:Nat),K.lookup a=some o/\o.cls= .type "tuple" /\o.data= .seq its n/\its.size<=sizeLine/\Vals xs its.toList
end L2
namespace L2
open PySem PySem.Spec PyProof.Rows
structure kW (K:UT) (C:KE):Prop where
 pg:PySem.W.plainGet K C Str.empty=true
 hd:PySem.W.hasDictIn K C=true
 po:PySem.W.plainOver K C=true
 sa:TM K (.ref C) "__setattr__" =some (some (.builtin "object.__setattr__"))
noncomputable def aO (K:UT) (C:KE) (f:Str):Prop:=TM K (.ref C) f=some none
structure Meth (K:UT) (C:KE) (m:Str) (f:KE):Prop where
 at_:TM K (.ref C) m=some (some (.ref f))
 fn:PySem.W.isFn K (.ref f)=true
 kp:TX K (.ref f)=true
end L2
namespace L2
open PySem PySem.Spec PyProof.Rows
structure cE (k:Nat) (A:Tl):Prop where
 hd:A.handled=none
 dp:A.depth+3*k+5<recursionLimit
 un:A.units+16*k+200<cLine
section
variable {X:Cx} {CX:sm} {k:Nat} {f C:KE} {fd:Uf} {ps:List Str} {sp:Sp} {dvs:List V} {ds:List UU} {E:XK} {x m:Str} {p pos apos:Pos} {e o:Expr} {es:List Expr} {ta:TE} {t:TA}
structure Mk (K:UT) (C f:KE):Prop where
 makes:PySem.W.makesIn K C=true
 init:TM K (.ref C) "__init__" =some (some (.ref f))
 fn:PySem.W.isFn K (.ref f)=true
 kp:TX K (.ref C)=true
end
end L2
namespace L2
open PySem PySem.Spec PyProof.Rows
noncomputable def inClass (s:Stmt) (j:Nat):Stmt:=match s with
 | .ClassDef _ _ _ body _ _ _ _ _ _ _=>body.getD j (.Pass #[0,0,0,0])
 |_=>.Pass #[0,0,0,0]
noncomputable def dr (s:Stmt):Arguments:=match s with
 | .FunctionDef _ a _ _ _ _ _ _ _ _=>a
 |_=>{posonlyargs:=[],args:=[],vararg:=none,kwonlyargs:=[],kw_defaults:=[],kwarg:=none,defaults:=[]}
noncomputable def bL (s:Stmt):List Stmt:=match s with
 | .FunctionDef _ _ b _ _ _ _ _ _ _=>b
 |_=>[]
noncomputable def ah (s:Stmt):Uz:=match s with
 | .FunctionDef _ _ _ _ _ _ sc _ _ _=>sc
 |_=>{kind:=.function,names:=[],isGenerator:=false,isCoroutine:=false}
structure wp (K:UT) (x qual:Str) (st:Stmt) (f:KE) (fd:Uf):Prop where
 ex:∃(oc:UU) (od:Option KE) (kV doc pm:UU) (an:Option KE) (cdv ct:UU) (osl:Array (Option UU)),
  fd=Ts x qual (dr st) (bL st) (ah st) .none kV doc pm an cdv ct/\K.lookup f=some #[oc,od,.func fd,osl]/\UR K cdv qual=true
 kp:TX K (.ref f)=true
section
variable {P:SN} {w:S_} {K:UT} {mg:Str->Option UU} {base:Ti}
theorem BO {x qual:Str} {st:Stmt} {f:KE} {oc:UU} {od an:Option KE} {osl:Array (Option UU)} {kV doc pm cdv ct:UU} (l:K.lookup f=some #[oc,od,.func (Ts x qual (dr st) (bL st) (ah st) .none kV doc pm an cdv ct),osl])
 (c:UR K cdv qual=true) (k:TX K (.ref f)=true):wp K x qual st f (Ts x qual (dr st) (bL st) (ah st) .none kV doc pm an cdv ct):=#[#[oc,od,kV,doc,pm,an,cdv,ct,osl,rfl,l,c],k]
end
end L2
end
section
namespace L2
open PySem PySem.Spec PyProof.Rows
noncomputable abbrev Pu:List UU:=[.type "ValueError",.type "Exception",.type "BaseException",.type "object"]
noncomputable def nO (K:UT) (C:KE):Bool:=match K.lookup C with
 |some ⟨.type "type",_,.cls cd,sl⟩=>(match sl.toList with
  |[_,_,_,_,some (.builtin n),_]=>cd.mro== .ref C::Pu&&n== "ValueError.__new__" && !cd.hasDel&&PySem.W.nsOkIn K cd.ns&&UQ K cd.ns "__init__" ==some none
  |_=>false)
 |_=>false
end L2
end
section
namespace L2
open PySem PySem.Spec PyProof.Rows
noncomputable def aG (K:UT) (mg:Str->Option UU) (x:Str) (st:Stmt):Prop:=∃f fd,mg x=some (.ref f)/\wp K x x st f fd
noncomputable def TupAt (K:UT) (mg:Str->Option UU) (x:Str) (xs:List V) (a:KE):Prop:=mg x=some (.ref a)/\∀H,ij K H a xs
end L2
end
section
namespace L2
open PySem PySem.Spec PyProof.Rows
noncomputable def m8 (P:SN) (w:S_) (K:UT) (a:KE) (kvs:List (Key×V)):Prop:=
 (a==sysModules)=false/\∃vs,KV kvs vs/\∀h:Ti,K.In h->h.DictOf (dq P w) a vs
noncomputable def MethAt (K:UT) (C:KE) (m qual:Str) (st:Stmt):Prop:=∃f fd,Meth K C m f/\wp K m qual st f fd
noncomputable def dU (K:UT) (C:KE) (qual:Str) (st:Stmt):Prop:=∃f fd,Mk K C f/\wp K "__init__" qual st f fd
end L2
end
section
namespace OL
open PySem PySem.Spec PyProof.Rows L2 VbptaaCore OLm
noncomputable def top (i:Nat):Stmt:=PySem.Challenge.pw_openlimits_s01_answers.main.body.getD i (.Pass #[0,0,0,0])
structure Cl where
 a8:KE
 iM:KE
 ga:KE
 gb:KE
 bp:KE
 NoLimit:KE
 ln:KE
 Calendar:KE
 cF:KE
 cG:KE
 cW:KE
 ck:KE
 de:KE
 Feast:KE
 Land:KE
 Limit:KE
 Act:KE
 dW:KE
 aH:KE
 tab:KE
structure Txt (P:SN) (w:S_) (K:UT) (mg:Str->Option UU) (c:Cl):Prop where
 hX:mg "range" =none
 eQ:mg "len" =none
 zo:mg "min" =none
 m9:mg "max" =none
 Na:mg "ord" =none
 Nb:mg "int" =none
 BP:mg "list" =none
 zp:mg "sorted" =none
 fE:∃t,mg "FIRST_YEAR" =some (.int 2000 t)
 gc:∃t,mg "LAST_TOLD_YEAR" =some (.int 2399 t)
 kX:∃t,mg "LAST_TOLD_DAY" =some (.int 146096 t)
 mM:∃t,mg "LAST_RECKONED_DAY" =some (.int 182621 t)
 u1:∃t,mg "A_LEAP_YEAR" =some (.int 2000 t)
 rA:∃a,TupAt K mg "MONTH_LENGTHS" [.int 31,.int 28,.int 31,.int 30,.int 31,.int 30,.int 31,.int 31,.int 30,.int 31,.int 30,.int 31] a
 Ed:aG K mg "is_leap" (top 7)
 sE:aG K mg "month_length" (top 8)
 xj:aG K mg "year_start" (top 9)
 Fw:aG K mg "day_of" (top 10)
 Ee:aG K mg "year_of" (top 11)
 Ef:aG K mg "date_of" (top 12)
 sF:aG K mg "months_later" (top 13)
 zr:aG K mg "month_end" (top 14)
 xk:aG K mg "weekday_of" (top 15)
 sI:aG K mg "weekday_from" (top 16)
 u4:aG K mg "moon_sunday" (top 17)
 m_:mg "OutOfRange" =some (.ref c.a8)
 ja:nO K c.a8=true
 nP:mg "TooMany" =some (.ref c.iM)
 j1:nO K c.iM=true
 oy:mg "NoSuchDay" =some (.ref c.ga)
 j3:nO K c.ga=true
 j5:mg "NoneFound" =some (.ref c.gb)
 hZ:nO K c.gb=true
 bu:mg "NotRight" =some (.ref c.bp)
 bn:nO K c.bp=true
 sJ:mg "NoLimit" =some (.ref c.NoLimit)
 nQ:nO K c.NoLimit=true
 oz:mg "NoEnd" =some (.ref c.ln)
 jD:nO K c.ln=true
 Fx:aG K mg "within" (top 26)
 BQ:aG K mg "reckoned" (top 27)
 u5:∃t,mg "MOST_MONTHS" =some (.int 1200 t)
 BR:aG K mg "told_day" (top 30)
 oA:aG K mg "told_day_behind" (top 31)
 zt:aG K mg "told_year" (top 32)
 zu:aG K mg "call_date" (top 33)
 BS:aG K mg "call_day" (top 34)
 u7:aG K mg "call_easter" (top 35)
 u9:aG K mg "call_months" (top 36)
 h_:∃a f0 f1 f2 f27,mg "DAY_CALLS" =some (.ref a)/\mg "call_date" =some (.ref f0)/\mg "call_day" =some (.ref f1)/\mg "call_easter" =some (.ref f2)/\mg "call_months" =some (.ref f27)/\m8 P w K a [(.inl 0,.ref f0),(.inl 1,.ref f1),(.inl 2,.ref f2),(.inl 27,.ref f27)]
 zw:aG K mg "with_stop" (top 39)
 Eg:aG K mg "with_go" (top 40)
 u_:aG K mg "count_still" (top 41)
 zx:aG K mg "made_good" (top 42)
 fb:∃a,mg "DAYS_OF_UNIT" =some (.ref a)/\m8 P w K a [(.inr "d",.int 1),(.inr "w",.int 7)]
 dP:∃a,mg "MONTHS_OF_UNIT" =some (.ref a)/\m8 P w K a [(.inr "m",.int 1),(.inr "y",.int 12)]
 Fy:aG K mg "end_of" (top 46)
 ve:aG K mg "end_or_none" (top 47)
 zy:aG K mg "going_day" (top 48)
 BU:aG K mg "moved_on" (top 49)
 pS:aG K mg "open_day_up_to" (top 50)
 zA:mg "Calendar" =some (.ref c.Calendar)
 aB:kW K c.Calendar
 dL:aO K c.Calendar "sentences"
 bT:aO K c.Calendar "rest_weekdays"
 dt:aO K c.Calendar "feasts"
 dM:aO K c.Calendar "shut_days"
 dg:aO K c.Calendar "opened_days"
 b7:aO K c.Calendar "closings"
 bM:aO K c.Calendar "next_opens"
 BV:dU K c.Calendar "Calendar.__init__" (inClass (top 52) 0)
 nR:MethAt K c.Calendar "is_rest" "Calendar.is_rest" (inClass (top 52) 1)
 lc:MethAt K c.Calendar "feast_days" "Calendar.feast_days" (inClass (top 52) 2)
 lq:MethAt K c.Calendar "moved_day" "Calendar.moved_day" (inClass (top 52) 3)
 gN:MethAt K c.Calendar "closed_for_feasts" "Calendar.closed_for_feasts" (inClass (top 52) 4)
 lr:MethAt K c.Calendar "is_closed" "Calendar.is_closed" (inClass (top 52) 5)
 iJ:MethAt K c.Calendar "first_open_day" "Calendar.first_open_day" (inClass (top 52) 6)
 jb:MethAt K c.Calendar "last_open_day" "Calendar.last_open_day" (inClass (top 52) 7)
 jE:MethAt K c.Calendar "kth_open_day" "Calendar.kth_open_day" (inClass (top 52) 8)
 im:MethAt K c.Calendar "count_open_days" "Calendar.count_open_days" (inClass (top 52) 9)
 zB:mg "DateRule" =some (.ref c.cF)
 dX:kW K c.cF
 fF:aO K c.cF "month"
 gd:aO K c.cF "date"
 BW:dU K c.cF "DateRule.__init__" (inClass (top 54) 0)
 pT:MethAt K c.cF "falls" "DateRule.falls" (inClass (top 54) 1)
 vf:mg "EasterRule" =some (.ref c.cG)
 jc:kW K c.cG
 gy:aO K c.cG "behind"
 xl:dU K c.cG "EasterRule.__init__" (inClass (top 55) 0)
 nS:MethAt K c.cG "falls" "EasterRule.falls" (inClass (top 55) 1)
 BX:mg "KthRule" =some (.ref c.cW)
 du:kW K c.cW
 jF:aO K c.cW "place"
 io:aO K c.cW "weekday"
 eE:aO K c.cW "month"
 Eh:dU K c.cW "KthRule.__init__" (inClass (top 56) 0)
 rB:MethAt K c.cW "falls" "KthRule.falls" (inClass (top 56) 1)
 zC:mg "LastRule" =some (.ref c.ck)
 fA:kW K c.ck
 g6:aO K c.ck "weekday"
 fG:aO K c.ck "month"
 BY:dU K c.ck "LastRule.__init__" (inClass (top 57) 0)
 pU:MethAt K c.ck "falls" "LastRule.falls" (inClass (top 57) 1)
 zE:mg "FromRule" =some (.ref c.de)
 gz:kW K c.de
 g7:aO K c.de "weekday"
 iN:aO K c.de "begin"
 BZ:dU K c.de "FromRule.__init__" (inClass (top 58) 0)
 pV:MethAt K c.de "falls" "FromRule.falls" (inClass (top 58) 1)
 Fz:mg "Feast" =some (.ref c.Feast)
 eW:kW K c.Feast
 jd:aO K c.Feast "rule"
 ls:aO K c.Feast "moved"
 fH:aO K c.Feast "years"
 HS:dU K c.Feast "Feast.__init__" (inClass (top 59) 0)
 sK:MethAt K c.Feast "day_in" "Feast.day_in" (inClass (top 59) 1)
 HU:∃t,mg "SIGNS" =some (.str " (),+-/0123456789;abcdefghijklmnopqrstuvwxyz" t)
 Ei:aG K mg "as_text" (top 62)
 vg:aG K mg "read_number" (top 63)
 B0:∃a,TupAt K mg "WEEKDAYS" [.str "mon",.str "tue",.str "wed",.str "thu",.str "fri",.str "sat",.str "sun"] a
 pW:∃t,mg "MOST_SENTENCES" =some (.int 20 t)
 fI:∃t,mg "FARTHEST_FROM_EASTER" =some (.int 80 t)
 rC:aG K mg "read_calendar" (top 68)
 sL:aG K mg "add_sentence" (top 69)
 xm:aG K mg "read_feast" (top 70)
 oB:aG K mg "read_short_rule" (top 71)
 pX:aG K mg "read_long_rule" (top 72)
 xn:aG K mg "read_years" (top 73)
 B1:aG K mg "read_day" (top 74)
 lf:aG K mg "read_month_and_date" (top 75)
 zF:aG K mg "read_year" (top 76)
 sM:aG K mg "read_weekday" (top 77)
 xo:aG K mg "split_into" (top 78)
 HV:mg "Land" =some (.ref c.Land)
 cn:kW K c.Land
 gn:aO K c.Land "ahead"
 j6:aO K c.Land "post"
 oE:aO K c.Land "text"
 bi:aO K c.Land "calendar"
 Kp:dU K c.Land "Land.__init__" (inClass (top 80) 0)
 FA:mg "Limit" =some (.ref c.Limit)
 oF:kW K c.Limit
 na:aO K c.Limit "text"
 lu:aO K c.Limit "steps"
 HW:dU K c.Limit "Limit.__init__" (inClass (top 81) 0)
 Kq:mg "Act" =some (.ref c.Act)
 gO:kW K c.Act
 lv:aO K c.Act "kind"
 fJ:aO K c.Act "place"
 gp:aO K c.Act "minute"
 Nc:dU K c.Act "Act.__init__" (inClass (top 82) 0)
 Ej:mg "Office" =some (.ref c.dW)
 aN:kW K c.dW
 cT:aO K c.dW "lands"
 aK:aO K c.dW "stretches"
 eF:aO K c.dW "limits"
 cH:aO K c.dW "acts"
 FB:dU K c.dW "Office.__init__" (inClass (top 83) 0)
 gA:∃t,mg "LAST_LAND" =some (.int 3 t)
 qT:∃t,mg "MOST_BACK" =some (.int 720 t)
 xp:∃t,mg "MOST_AHEAD" =some (.int 840 t)
 zG:∃t,mg "MOST_POST" =some (.int 30 t)
 sN:∃t,mg "LONGEST_TEXT" =some (.int 800 t)
 zH:aG K mg "told_land" (top 90)
 zI:aG K mg "told_text" (top 91)
 zJ:aG K mg "call_land" (top 92)
 rD:aG K mg "call_landtext" (top 93)
 vh:aG K mg "call_closed" (top 94)
 zK:aG K mg "call_next" (top 95)
 zL:aG K mg "call_last" (top 96)
 xq:aG K mg "call_opens" (top 97)
 B2:aG K mg "call_kth" (top 98)
 vi:aG K mg "call_feasts" (top 99)
 gq:∃a f3 f4 f5 f6 f7 f8 f9 f10,mg "LAND_CALLS" =some (.ref a)/\mg "call_land" =some (.ref f3)/\mg "call_landtext" =some (.ref f4)/\mg "call_closed" =some (.ref f5)/\mg "call_next" =some (.ref f6)/\mg "call_last" =some (.ref f7)/\mg "call_opens" =some (.ref f8)/\mg "call_kth" =some (.ref f9)/\mg "call_feasts" =some (.ref f10)/\m8 P w K a [(.inl 3,.ref f3),(.inl 4,.ref f4),(.inl 5,.ref f5),(.inl 6,.ref f6),(.inl 7,.ref f7),(.inl 8,.ref f8),(.inl 9,.ref f9),(.inl 10,.ref f10)]
 B3:∃a,TupAt K mg "WITH_ONE" [.str "receipt",.str "open",.str "back",.str "month",.str "going"] a
 B4:∃a,TupAt K mg "WITH_TWO" [.str "later",.str "earlier"] a
 HX:∃a,TupAt K mg "UNITS" [.str "d",.str "w",.str "m",.str "y",.str "o"] a
 xr:∃t,mg "MOST_ADDED" =some (.int 400 t)
 j7:∃t,mg "MOST_OPEN_DAYS_ADDED" =some (.int 20 t)
 Ek:∃t,mg "DEEPEST" =some (.int 12 t)
 xt:aG K mg "read_limit" (top 108)
 sO:mg "LimitReader" =some (.ref c.aH)
 au:kW K c.aH
 bQ:aO K c.aH "text"
 aR:aO K c.aH "at"
 b8:aO K c.aH "steps"
 vj:dU K c.aH "LimitReader.__init__" (inClass (top 109) 0)
 eX:MethAt K c.aH "read_whole" "LimitReader.read_whole" (inClass (top 109) 1)
 jG:MethAt K c.aH "read_base" "LimitReader.read_base" (inClass (top 109) 2)
 je:MethAt K c.aH "read_inner" "LimitReader.read_inner" (inClass (top 109) 3)
 ia:MethAt K c.aH "read_addition" "LimitReader.read_addition" (inClass (top 109) 4)
 iK:MethAt K c.aH "take_digits" "LimitReader.take_digits" (inClass (top 109) 5)
 mO:MethAt K c.aH "takes" "LimitReader.takes" (inClass (top 109) 6)
 nT:MethAt K c.aH "need" "LimitReader.need" (inClass (top 109) 7)
 xu:∃t,mg "LAST_PLACE" =some (.int 5 t)
 rE:∃t,mg "LONGEST_LIMIT" =some (.int 100 t)
 rF:∃t,mg "FARTHEST_BACK" =some (.int 200 t)
 rG:∃t,mg "MOST_COMPARED" =some (.int 60 t)
 xx:aG K mg "told_place" (top 115)
 B5:aG K mg "limit_in" (top 116)
 B6:aG K mg "steps_in" (top 117)
 xy:aG K mg "call_limit" (top 118)
 pY:aG K mg "call_limittext" (top 119)
 B7:aG K mg "call_end" (top 120)
 vk:aG K mg "call_latest" (top 121)
 zM:aG K mg "call_same" (top 122)
 xz:aG K mg "call_never" (top 123)
 sP:aG K mg "ends_of_both" (top 124)
 xA:aG K mg "ends_later" (top 125)
 zN:aG K mg "call_ends" (top 126)
 fK:∃a f15 f16 f17 f18 f19 f20 f26,mg "LIMIT_CALLS" =some (.ref a)/\mg "call_limit" =some (.ref f15)/\mg "call_limittext" =some (.ref f16)/\mg "call_end" =some (.ref f17)/\mg "call_latest" =some (.ref f18)/\mg "call_same" =some (.ref f19)/\mg "call_never" =some (.ref f20)/\mg "call_ends" =some (.ref f26)/\m8 P w K a [(.inl 15,.ref f15),(.inl 16,.ref f16),(.inl 17,.ref f17),(.inl 18,.ref f18),(.inl 19,.ref f19),(.inl 20,.ref f20),(.inl 26,.ref f26)]
 zO:∃t,mg "LAST_KIND" =some (.int 9 t)
 sQ:∃t,mg "FIRST_MINUTE" =some (.int 1440 t)
 vm:∃t,mg "LAST_MINUTE" =some (.int 210378240 t)
 zP:∃t,mg "MOST_ACTS" =some (.int 30 t)
 jH:∃t,mg "MINUTES_OF_DAY" =some (.int 1440 t)
 zQ:aG K mg "told_kind" (top 134)
 vn:aG K mg "told_minute" (top 135)
 zR:aG K mg "day_there" (top 136)
 B8:aG K mg "call_act" (top 137)
 zS:aG K mg "call_acts" (top 138)
 B9:aG K mg "call_met" (top 139)
 rH:aG K mg "call_anywhere" (top 140)
 rJ:aG K mg "first_in_time" (top 141)
 mP:aG K mg "numbers_by_minute" (top 142)
 xD:aG K mg "is_in_time" (top 143)
 xE:aG K mg "call_clock" (top 144)
 j8:∃a f21 f22 f23 f24 f25,mg "ACT_CALLS" =some (.ref a)/\mg "call_act" =some (.ref f21)/\mg "call_acts" =some (.ref f22)/\mg "call_met" =some (.ref f23)/\mg "call_anywhere" =some (.ref f24)/\mg "call_clock" =some (.ref f25)/\m8 P w K a [(.inl 21,.ref f21),(.inl 22,.ref f22),(.inl 23,.ref f23),(.inl 24,.ref f24),(.inl 25,.ref f25)]
 pZ:∃t,mg "MOST_STRETCHES" =some (.int 12 t)
 jI:∃t,mg "LONGEST_CHANGE" =some (.int 4000 t)
 p0:aG K mg "keep_stretches" (top 149)
 zT:aG K mg "call_stop" (top 150)
 El:aG K mg "call_go" (top 151)
 xF:aG K mg "call_stops" (top 152)
 xG:aG K mg "call_still" (top 153)
 fL:∃a f11 f12 f13 f14,mg "STILL_CALLS" =some (.ref a)/\mg "call_stop" =some (.ref f11)/\mg "call_go" =some (.ref f12)/\mg "call_stops" =some (.ref f13)/\mg "call_still" =some (.ref f14)/\m8 P w K a [(.inl 11,.ref f11),(.inl 12,.ref f12),(.inl 13,.ref f13),(.inl 14,.ref f14)]
 HY:∃a,TupAt K mg "SIZES" [.int 1,.int 3,.int 1,.int 3,.int 1,.int 2,.int 2,.int 2,.int 3,.int 3,.int 2,.int 2,.int 2,.int 0,.int 2,.int 1,.int 1,.int 3,.int 3,.int 5,.int 5,.int 3,.int 0,.int 4,.int 3,.int 2,.int 2,.int 2] a
 zU:∃a,TupAt K mg "WITH_TEXT" [.int 3,.int 15] a
 Em:aG K mg "answers" (top 158)
 mQ:aG K mg "answer_or_refusal" (top 159)
 vo:aG K mg "answer_call" (top 160)
 zV:∀a,mg "WEEKDAYS" =some (.ref a)->∃o,K.lookup a=some o/\o.cls= .type "tuple" /\o.dict=none
 PU:PySem.W.nsOkIn K cStatics=true
 Nf:UQ K cStatics "sys.int_max_str_digits" =some none
 nd:[c.a8,c.iM,c.ga,c.gb,c.bp,c.NoLimit,c.ln].Nodup
end OL
end
section
namespace OL
open PySem PySem.Spec PyProof.Rows L2
open PySem.W (WData Codec OpenSpec Well WellAll ReadsW ReadsAllW)
section
variable {P:SN} {w:S_} {K:UT} {h:Ti} {mg:Str->Option UU}
theorem cQ {α:Sort _} {p:α->Prop} {a:α} (h:p a):∃a,p a:=#[a,h]
theorem Kr {x:Str} {st:Stmt} {f:KE} {oc:UU} {od an:Option KE} {osl:Array (Option UU)} {kV doc pm cdv ct:UU} (X:K.In h) (G:h.Ns mainGlobals mg) (a:UQ K mainGlobals x=some (some (.ref f)))
 (l:K.lookup f=some #[oc,od,.func (Ts x x (dr st) (bL st) (ah st) .none kV doc pm an cdv ct),osl]) (c:UR K cdv x=true) (k:TX K (.ref f)=true):aG K mg x st:=#[f,_,SH X G a,BO l c k]
theorem HZ {C:KE} {x qual:Str} {st:Stmt} {f:KE} {oc:UU} {od an:Option KE} {osl:Array (Option UU)} {kV doc pm cdv ct:UU} (a:TM K (.ref C) x=some (some (.ref f))) (i:PySem.W.isFn K (.ref f)=true)
 (l:K.lookup f=some #[oc,od,.func (Ts x qual (dr st) (bL st) (ah st) .none kV doc pm an cdv ct),osl]) (c:UR K cdv qual=true) (k:TX K (.ref f)=true):MethAt K C x qual st:=#[f,_,#[a,i,k],BO l c k]
theorem H_ {C:KE} {qual:Str} {st:Stmt} {f:KE} {oc:UU} {od an:Option KE} {osl:Array (Option UU)} {kV doc pm cdv ct:UU} (a:TM K (.ref C) "__init__" =some (some (.ref f))) (i:PySem.W.isFn K (.ref f)=true)
 (l:K.lookup f=some #[oc,od,.func (Ts "__init__" qual (dr st) (bL st) (ah st) .none kV doc pm an cdv ct),osl]) (c:UR K cdv qual=true) (k:TX K (.ref f)=true) (m:PySem.W.makesIn K C=true) (kc:TX K (.ref C)=true):dU K C qual st:=#[f,_,#[m,a,i,kc],BO l c k]
theorem Ks {n:Nat} (X:K.In h) (G:h.Ns mainGlobals mg) (e:UQ K mainGlobals x=some (some (.ref a))) (l:K.lookup a=some #[.type "tuple",od,.seq its n,sl]) (z:its.size<=sizeLine) (v:Vals xs its.toList):∃a,TupAt K mg x xs a:=
 #[a,SH X G e,λH=>.inr #[_,its,n,l,rfl,rfl,z,v]]
theorem Ng (X:K.In h) (G:h.Ns mainGlobals mg) (e:UQ K mainGlobals x=some (some (.ref b))) (l:K.lookup b=some #[.type "tuple",none,d,sl]):∀a,mg x=some (.ref a)->∃o,K.lookup a=some o/\o.cls= .type "tuple" /\o.dict=none:=λa q=>by rw [SH X G e] at q;cases q;exact #[_,l,rfl,rfl]
noncomputable def GP (w:S_):List DictEntry->List (Key×V)->Prop
 |[],[]=>True
 |e::es,kv::kvs=>qS kv.1 e.key=true/\e.hash=Kj w kv.1/\RelV kv.2 e.val/\GP w es kvs
 |_,_=>False
theorem GP.all:∀{es:List DictEntry} {kvs:List (Key×V)},GP w es kvs->∃vs,KV kvs vs/\Pairs (dq P w) es vs/\vs.map (·.1)=kvs.map (·.1)/\∀e∈es,∃k,qS k e.key=true/\e.hash=Kj w k
 |[],[],_=>#[[],.nil,.nil,rfl,λe h=>nomatch h]
 |e::es,kv::kvs,h=>by
  obtain ⟨h1,h2,h3,h4⟩:=h;obtain ⟨vs,g1,g2,g3,g4⟩:=GP.all h4;refine #[(kv.1,e.val)::vs,.cons #[rfl,h3] g1,.cons h1 rfl g2,by rw [S1,S1,g3],λe' he=>?_];rcases (Sg).mp he with rfl|he
  .exact #[kv.1,h1,h2]
  .exact g4 e' he
 |[],_::_,h=>h.elim
 |_::_,[],h=>h.elim
theorem zW {n:Nat} (l:K.lookup a=some #[.type "dict",none,.dict es n,#[]]) (ha:(a==sysModules)=false) (g:GP w es.toList kvs) (nd:(kvs.map (·.1)).Nodup):m8 P w K a kvs:=by obtain ⟨vs,g1,g2,g3,g4⟩:=GP.all (P:=P) g;refine #[ha,vs,g1,λh X=>#[_,es,n,X _ _ l,#[rfl,rfl,rfl],rfl,λe he=>g4 e (Array.mem_def.mp he),g2,by rw [g3];exact nd]]
end
end OL
end
namespace OL
open PySem PySem.Spec PyProof.Rows L2
noncomputable def WT:Prop:=∀{q:SN} {loose:List Str} {XP:(Str->Option UU)->Ti->Prop} {YP:S_->Ti->Prop} {d dn:DefRec} {K:Params->UT} (c:Cl) {cc:KE}
    (hwell:PySem.Challenge.rw_openlimits_s01_answers.wellSaid=true) (hdn:d.name= "answers") (hr:cE 72 callerA)
    (hY:∀(w:S_) (h:Ti),YP w h->(K w.params).In h)
    (hn:(recsOf q).find? (λe=>e.name==("numbers_by_minute" :Str))=some dn)
    (htab:∀w:S_,PySem.W.tabIn (K w.params) "numbers_by_minute" =some (cc,c.tab))
    (hKt:∀w:S_,(K w.params).lookup c.tab=none)
    (hT:∀(w:S_) (mg:Str->Option UU) (h:Ti),(K w.params).In h->h.Ns mainGlobals mg->Txt PySem.Challenge.rw_openlimits_s01_answers.prog w (K w.params) mg c),PySem.W.WalkOS q loose XP YP PySem.Challenge.rw_openlimits_s01_answers d [] (λf vs=>PySem.call f vs)
end OL
end
section zzCX
local macro_rules
 | `(tactic|refine $f:ident $a*)=>if f.getId.eraseMacroScopes== `PySem.W.holds_os then `(tactic|refine (PySem.W.holds_os $(a.pop)* ((?hc:OL.WT->_) ‹OL.WT›))) else Lean.Macro.throwUnsupported
open PySem PySem.W PyProof.Rows
set_option maxHeartbeats 0 in
theorem PySem.Challenge.cx (W:OL.WT):PySem.Challenge.rw_openlimits_s01_answers.Holds:=by
 w_on;k_headS;(case hw=>exact ⟨[.list [.int 13]],by decide+kernel,by decide+kernel⟩)
 intro W
 k_fillS
 refine W (cc:=1026) ⟨102,115,128,141,154,167,180,390,418,446,474,502,530,558,669,690,711,730,879,1022⟩ (by decide+kernel) rfl ⟨rfl,by decide,by decide⟩ (λw h Y=>PySem.W.kIn_of Y) rfl (λw=>?_) (λw=>?_) λw mg h X G=>?_
 ·kernel_rfl
 ·kernel_rfl
 ·constructor
  all_goals (try dsimp only)
  all_goals first
   |(refine' OL.Kr X G ?ya ?yl ?yc ?yk;(case ya=>k_is);(case yl=>k_is);(case yc=>k_is);(case yk=>k_is))
   |(refine' OL.HZ ?ya ?yi ?yl ?yc ?yk;(case ya=>k_is);(case yi=>k_is);(case yl=>k_is);(case yc=>k_is);(case yk=>k_is))
   |(refine' OL.H_ ?ya ?yi ?yl ?yc ?yk ?ym ?yd;(case ya=>k_is);(case yi=>k_is);(case yl=>k_is);(case yc=>k_is);(case yk=>k_is);(case ym=>k_is);(case yd=>k_is))
   |((with_reducible refine PySem.W.mg_none_of X G ?_);k_is)
   |((with_reducible refine SH X G ?_);k_is)
   |(refine' OL.cQ (SH X G ?ya);(case ya=>k_is))
   |(refine L2.kW.mk ?_ ?_ ?_ ?_<;>k_is)
   |(show TM _ _ _=_;k_is)
   |k_is
   |(refine' OL.Ks X G ?ya ?yl ?yz ?yv;(case ya=>k_is);(case yl=>k_is);(case yz=>decide+kernel);(case yv=>repeat (first|exact .nil|refine .cons ⟨_,rfl⟩ ?_)))
   |kernel_rfl
   |decide
   |(refine' OL.cQ (⟨SH X G ?ya,OL.zW ?yl ?ys ?yg ?yn⟩);(case ya=>k_is);(case yl=>k_is);(case ys=>rfl);(case yg=>repeat (first|exact trivial|refine ⟨rfl,rfl,⟨_,rfl⟩,?_⟩));(case yn=>decide+kernel))
   |(refine' OL.cQ (OL.cQ (OL.cQ (OL.cQ (OL.cQ (⟨SH X G ?ya,SH X G ?ya0,SH X G ?ya1,SH X G ?ya2,SH X G ?ya3,OL.zW ?yl ?ys ?yg ?yn⟩)))));(case ya=>k_is);(case ya0=>k_is);(case ya1=>k_is);(case ya2=>k_is);(case ya3=>k_is);(case yl=>k_is);(case ys=>rfl);(case yg=>repeat (first|exact trivial|refine ⟨rfl,rfl,rfl,?_⟩));(case yn=>decide+kernel))
   |(refine' OL.cQ (OL.cQ (OL.cQ (OL.cQ (OL.cQ (OL.cQ (OL.cQ (OL.cQ (OL.cQ (⟨SH X G ?ya,SH X G ?ya0,SH X G ?ya1,SH X G ?ya2,SH X G ?ya3,SH X G ?ya4,SH X G ?ya5,SH X G ?ya6,SH X G ?ya7,OL.zW ?yl ?ys ?yg ?yn⟩)))))))));(case ya=>k_is);(case ya0=>k_is);(case ya1=>k_is);(case ya2=>k_is);(case ya3=>k_is);(case ya4=>k_is);(case ya5=>k_is);(case ya6=>k_is);(case ya7=>k_is);(case yl=>k_is);(case ys=>rfl);(case yg=>repeat (first|exact trivial|refine ⟨rfl,rfl,rfl,?_⟩));(case yn=>decide+kernel))
   |(refine' OL.cQ (OL.cQ (OL.cQ (OL.cQ (OL.cQ (OL.cQ (OL.cQ (OL.cQ (⟨SH X G ?ya,SH X G ?ya0,SH X G ?ya1,SH X G ?ya2,SH X G ?ya3,SH X G ?ya4,SH X G ?ya5,SH X G ?ya6,OL.zW ?yl ?ys ?yg ?yn⟩))))))));(case ya=>k_is);(case ya0=>k_is);(case ya1=>k_is);(case ya2=>k_is);(case ya3=>k_is);(case ya4=>k_is);(case ya5=>k_is);(case ya6=>k_is);(case yl=>k_is);(case ys=>rfl);(case yg=>repeat (first|exact trivial|refine ⟨rfl,rfl,rfl,?_⟩));(case yn=>decide+kernel))
   |(refine' OL.cQ (OL.cQ (OL.cQ (OL.cQ (OL.cQ (OL.cQ (⟨SH X G ?ya,SH X G ?ya0,SH X G ?ya1,SH X G ?ya2,SH X G ?ya3,SH X G ?ya4,OL.zW ?yl ?ys ?yg ?yn⟩))))));(case ya=>k_is);(case ya0=>k_is);(case ya1=>k_is);(case ya2=>k_is);(case ya3=>k_is);(case ya4=>k_is);(case yl=>k_is);(case ys=>rfl);(case yg=>repeat (first|exact trivial|refine ⟨rfl,rfl,rfl,?_⟩));(case yn=>decide+kernel))
   |(refine' OL.Ng X G ?ya ?yl;(case ya=>k_is);(case yl=>k_is))
   |(refine PySem.W.mg_none_of X G ?_;k_is)
   |(refine SH X G ?_;k_is)
end zzCX
section
set_option genSizeOf false
local macro_rules|`(tactic|omega)=>`(tactic|lia)
local macro_rules|`(tactic|injections $x:ident)=>`(tactic|first|subst $x|cases ($x))|`(tactic|cases $x:ident)=>`(tactic|first|(exfalso;injection $x;done)|subst $x|(injection $x with a b c;injections a;injections b;injections c)|(injection $x with a b;injections a;injections b)|(injection $x with a;cases a)|cases ($x))
local macro_rules|`(tactic|rw [$f:ident $h])=>do
  let n:=f.getId
  if n != `if_pos && n != `if_neg then Lean.Macro.throwUnsupported
  let g:=Lean.mkIdent (if n == `if_pos then `L2.ifp else `L2.ifn)
  `(tactic|first|((with_reducible refine' $g:ident ?zh ?_);(case zh=>exact $h))|rw [($f $h)])
local macro_rules|`(nomatch $x:ident)=>`((by first|(injection $x;done)|(injection $x with z;injection z;done)|exact nomatch ($x)))
local macro_rules|`(tactic|exists $t)=>do
  let k:="pv iiierodd aa iiiiiee ac iiie aV iiier bt ieiiiiieeroro am iiiie bK iiiiiiiiiiiiiiiiiiiiiiiieeerdrr az iiiiiiiieee aq iiiiiee cz iiiiieerr cR iiiiiieex dH iiiiiiieeerrr aL iiiiiiiieee aA iiiiiiiieeee fW iiiiiiiiiieeerdrr aQ iiiie gI iiieeed k9 iiiiiieex aJ iiiiiiiiieeeeeddrr a9 iiiiiiiieee bA iiiier bJ iiiiiiiiiiiiiiiieeeeerrr dG iiiiiiiiiiiieeeeeerrrrr cp iiiiiiiieeeeen bw iiiiiiieeeeed c9 iiien gR iiiieed cb iiiie cr iiie gF iiiiiiiiiiiiieeeeedrr PW.pt iiie cX iiiiiiiiiieeee bY iiiiieer k6 iiiiiiee gQ iiiiie nh iiiiiiiee jf iiiie gt iiiiiiiiieeeee iQ iiiiiiiieeee gC iiiiiieee iT iiiiiiiiiieeeeed nX iiiiieee km iiiiiiieeee qp iiiiiieee qg iiiiiiiiieeeeerr sX iiiiie sW iiiiiiiee oG iiiie oQ iiiiiieeee ik iiiiiiiiieeeeeddrr xL iiiiiiiee mB iiiiiiieeerr oH iiiiiiiieee mD iiiiieee xJ iiiie Af iiiiiiiiiieeeeerrr tN iiiiiiieerrr CC iiiiiiiiiieeeed qe iiiiiiiiiieee wu iiiiiieeer JX iiiiiiiieeeerr FP iiiie Gi iiiiiiieeee".splitOn " "
  let t←t.raw.rewriteBottomUpM λs=>do
    if let some n:=k.idxOf? (toString s[0].getId) then
      let p:=(k.getD (n+1) "").toList
      if p.count 'e'==s[1].getNumArgs then
        let mut a:=#[]
        let mut j:=0
        for c in p do
          if c=='e' then
            a:=a.push ⟨s[1][j]⟩;j:=j+1
          else a:=a.push (←if c=='r' then `(by rfl) else if c=='d' then `(by decide) else if c=='x' then `(by exact λ_ _=>rfl) else if c=='n' then `(by intro _;rfl) else if c=='o' then `(by first|exact .inl rfl|exact .inr rfl|exact .inr (.inl rfl)|exact .inr (.inr rfl)|assumption) else `(_))
        return ←`(@$(Lean.mkIdent (`L2++s[0].getId)) $a*)
    return s
  `(tactic|refine ⟨_,$(⟨t⟩),?_⟩)
local macro_rules|`(#[$x,$xs,*])=>`(⟨$x,$xs,*⟩)|`(#[$x])=>`(⟨$x⟩)
section
namespace L2
open PySem PySem.Spec PyProof.Rows
theorem Eo (i:Int) (t:Tok):qS (.inl i) (.int i t)=true:=by simp [qS,UU.isInt]
theorem Ep (x:Str) (t:Tok):qS (.inr x) (.str x t)=true:=by simp [qS,UU.isStrOf]
theorem zX (prog:SN) (w:S_) (i:Int) (t:Tok):(dq prog w).is (.inl i) (.int i t)=true:=Eo i t
theorem zY (prog:SN) (w:S_) (x:Str) (t:Tok):(dq prog w).is (.inr x) (.str x t)=true:=Ep x t
end L2
namespace L2
open PySem PySem.Spec PyProof.Rows
theorem Vals.length (r:Vals xs us):xs.length=us.length:=Paired.length r
theorem Vals.get:∀{xs:List V} {us:List UU} {i:Nat} {x:V},Vals xs us->xs[i]? =some x->∃u,us[i]? =some u/\RelV x u
 |_,_,_,_,.nil,e=>by simp at e
 |_,_,0,_,.cons r _,e=>by simp at e;subst e;exact #[_,rfl,r]
 |_,_,i+1,x,.cons _ t,e=>by obtain ⟨u,h1,h2⟩:=Vals.get (i:=i) (x:=x) t (by simpa using e);exact #[u,by simpa using h1,h2]
theorem Vals.set (r:RelV x u):∀{xs:List V} {us:List UU} (i:Nat),Vals xs us->Vals (xs.set i x) (us.set i u)
 |_,_,_,.nil=>.nil
 |_,_,0,.cons _ t=>.cons r t
 |_,_,i+1,.cons q t=>.cons q (Vals.set r i t)
theorem Vals.append:∀{xs ys:List V} {us ws:List UU},Vals xs us->Vals ys ws->Vals (xs++ys) (us++ws)
 |_,_,_,_,.nil,s=>s
 |_,_,_,_,.cons r t,s=>.cons r (Vals.append t s)
theorem Vals.take:∀{xs:List V} {us:List UU} (n:Nat),Vals xs us->Vals (xs.take n) (us.take n)
 |_,_,0,_=>.nil
 |_,_,_+1,.nil=>.nil
 |_,_,n+1,.cons r t=>.cons r (Vals.take n t)
theorem Vals.drop:∀{xs:List V} {us:List UU} (n:Nat),Vals xs us->Vals (xs.drop n) (us.drop n)
 |_,_,0,r=>r
 |_,_,_+1,.nil=>.nil
 |_,_,n+1,.cons _ t=>Vals.drop n t
noncomputable def lw:Option V->Option UU->Prop
 |some v,some u=>RelV v u
 |none,none=>True
 |_,_=>False
noncomputable def kV:Key->V
 | .inl i=>.int i
 | .inr x=>.str x
noncomputable def upd (H:Hp) (a:KE) (o:HO):Hp:=λb=>if b=a then some o else H b
theorem ae:upd H a o a=some o:=by unfold upd;rw [if_pos rfl]
theorem ai (h:b≠a):upd H a o b=H b:=by unfold upd;rw [if_neg h]
theorem bX:upd (upd H a o) a u=upd H a u:=by funext b;unfold upd;split<;>rfl
theorem aX {H:Hp} {a b:KE} {o u:HO} (h:H a=some o) (h':H b=some u) (d:o≠u):a≠b:=by intro e;subst e;rw [h] at h';exact d (Sd h')
theorem ak {H:Hp} {a b:KE} {o:HO} (h:H a=some o) (h':H b=none):a≠b:=by intro e;subst e;rw [h] at h';cases h'
section
variable (P:SN) (w:S_)
noncomputable def dE (H:Hp) (h:Ti) (a:KE):HO->Prop
 | .lst xs=>xs.length<=sizeLine/\∃(its:List UU) (n:Nat),Vals xs its/\h.get? a=some {cls:=.type "list",data:=.seq its.toArray n}
 | .tup xs=>xs.length<=sizeLine/\∃its:List UU,Vals xs its/\IsTup h a its.toArray
 | .dK kvs=>kvs.length<=sizeLine/\(a==sysModules)=false/\∃vs,KV kvs vs/\h.DictOf (dq P w) a vs
 | .dT kvs=>kvs.length<=sizeLine/\(a==sysModules)=false/\∃xs:List (List Key×KE×UU),
  Paired (λ(p:List Key×V) (q:List Key×KE×UU)=>p.1=q.1/\H q.2.1=some (.tup (p.1.map kV))/\RelV p.2 q.2.2) kvs xs/\
  ∃o es ep,h.get? a=some o/\o.ExactDict/\o.data= .dict es ep/\es.toList=xs.map (entryOfKey (tupleKind (dq P w)))/\(xs.map (·.1)).Nodup
 | .set S n=>h.SetOf (intKind P w) a S n
 | .ins C dx fs=>H dx=some (.own a)/\fs.length<=1000/\dx≠a/\h.get? a=some (Ud C dx)/\
  ∃mA,h.Ns1 dx mA/\(∀f,lw (fs.lookup f) (mA f))/\PySem.Within mA (fs.map (·.1))
 | .own _=>∃o,h.get? a=some o
 | .xd fs=>∃mA,h.Ns1 a mA/\∀f,lw (fs.lookup f) (mA f)
 | .Fq lo hi=>∃t u v,h.get? a=some {cls:=.type "range",data:=.fields [.int lo t,.int hi u,.int 1 v].toArray}
 | .u0 o u=>h.get? a=some o/\dE H h a u
 | .jC ps=>h.get? a=some {cls:=.none,data:=.fields ps}
 | .met f x=>h.get? a=some (PySem.W.methodObj (.ref f) (.ref x))
 | .ext φ=>φ h/\(∃o,h.get? a=some o)/\∀h1 h2:Ti,φ h1->(∀o,h1.get? a=some o->h2.get? a=some o)->φ h2
def iO (H:Hp) (h:Ti):Prop:=∀a o,H a=some o->dE P w H h a o
end
section
variable {P:SN} {w:S_} {H H':Hp} {h h':Ti} {a:KE} {o:HO}
theorem dE.lt (x:dE P w H h a o):a<h.objs.size:=by
 cases o with
 |lst xs=>obtain ⟨_,_,_,_,e⟩:=x;exact SK e
 |tup xs=>obtain ⟨_,_,_,p⟩:=x;exact p.lt
 |dK kvs=>obtain ⟨_,_,_,_,o,_,_,e,_⟩:=x;exact SK e
 |dT kvs=>obtain ⟨_,_,_,_,o,_,_,e,_⟩:=x;exact SK e
 |set S n=>obtain ⟨o,_,_,_,e,_⟩:=x;exact SK e
 |ins C dx fs=>obtain ⟨_,_,_,e,_⟩:=x;exact SK e
 |own y=>obtain ⟨_,e⟩:=x;exact SK e
 |xd fs=>obtain ⟨_,⟨_,_,_,e,_⟩,_⟩:=x;exact SK e
 |Fq lo hi=>obtain ⟨_,_,_,e⟩:=x;exact SK e
 |u0 ob u=>obtain ⟨e,_⟩:=x;exact SK e
 |jC ps=>exact SK (show h.get? a=some _ from x)
 |met f y=>exact SK (show h.get? a=some _ from x)
 |ext φ=>obtain ⟨_,⟨_,e⟩,_⟩:=x;exact SK e
theorem Paired.Kt {α β:Type} {F G:α->β->Prop}:∀{l₁:List α} {l₂:List β},Paired F l₁ l₂->(∀a b,F a b->G a b)->Paired G l₁ l₂
 |_,_,.nil,_=>.nil
 |_,_,.cons r t,f=>.cons (f _ _ r) (Paired.Kt t f)
theorem dE.vp (x:dE P w H h a o) (k:∀b u,(b=a\/H b=some (.own a))->h.get? b=some u->h'.get? b=some u)
 (ho:∀b,H b=some (.own a)->H' b=some (.own a)) (ht:∀b xs,H b=some (.tup xs)->H' b=some (.tup xs)):dE P w H' h' a o:=by
 induction o with
 |lst xs=>obtain ⟨z,its,n,r,e⟩:=x;exact #[z,its,n,r,k _ _ (.inl rfl) e]
 |tup xs=>obtain ⟨z,its,r,ob,e,c⟩:=x;exact #[z,its,r,ob,k _ _ (.inl rfl) e,c]
 |dK kvs=>obtain ⟨z,y,vs,r,ob,es,ep,e,c⟩:=x;exact #[z,y,vs,r,ob,es,ep,k _ _ (.inl rfl) e,c]
 |dT kvs=>obtain ⟨z,y,xs,r,ob,es,ep,e,c⟩:=x;exact #[z,y,xs,Paired.Kt r λp q z=>#[z.1,ht _ _ z.2.1,z.2.2],ob,es,ep,k _ _ (.inl rfl) e,c]
 |set S n=>obtain ⟨ob,es,ep,t,e,c⟩:=x;exact #[ob,es,ep,t,k _ _ (.inl rfl) e,c]
 |ins C dx fs=>obtain ⟨d,z,ne,e,mA,⟨od,es,ep,e2,c⟩,r⟩:=x;exact #[ho _ d,z,ne,k _ _ (.inl rfl) e,mA,#[od,es,ep,k _ _ (.inr d) e2,c],r]
 |own y=>obtain ⟨ob,e⟩:=x;exact #[ob,k _ _ (.inl rfl) e]
 |xd fs=>obtain ⟨mA,⟨od,es,ep,e,c⟩,r⟩:=x;exact #[mA,#[od,es,ep,k _ _ (.inl rfl) e,c],r]
 |Fq lo hi=>obtain ⟨t,u,v,e⟩:=x;exact #[t,u,v,k _ _ (.inl rfl) e]
 |u0 ob u ih=>obtain ⟨e,q⟩:=x;exact #[k _ _ (.inl rfl) e,ih q]
 |jC ps=>have e:h.get? a=some {cls:=.none,data:=.fields ps}:=x;show h'.get? a=some {cls:=.none,data:=.fields ps};exact k a _ (.inl rfl) e
 |met f y=>have e:h.get? a=some (PySem.W.methodObj (.ref f) (.ref y)):=x;show h'.get? a=some (PySem.W.methodObj (.ref f) (.ref y));exact k a _ (.inl rfl) e
 |ext φ=>obtain ⟨p,⟨o,e⟩,st⟩:=x;exact #[st _ _ p λo q=>k _ _ (.inl rfl) q,#[o,k _ _ (.inl rfl) e],st]
theorem iO.lt (x:iO P w H h) (e:H a=some o):a<h.objs.size:=(x a o e).lt
theorem iO.fresh (x:iO P w H h) (e:h.objs.size<=a):H a=none:=by
 cases q:H a with
 |none=>rfl
 |some u=>exact absurd (SS (x.lt q) e) (Tr _)
theorem iO.kept (x:iO P w H h) (k:∀b u,h.get? b=some u->h'.get? b=some u):iO P w H h':=λa o e=>(x a o e).vp (λb u _ q=>k b u q) (λ_ q=>q) λ_ _ q=>q
theorem iO.laid (x:iO P w H h) (k:∀b u,h.get? b=some u->h'.get? b=some u) (hp:h.objs.size<=a) (new:dE P w (upd H a o) h' a o):iO P w (upd H a o) h':=λb u e=>by
 have hn:=x.fresh hp;by_cases hb:b=a
 .subst hb;rw [ae] at e;cases e;exact new
 .rw [ai hb] at e;exact (x b u e).vp (λc v _ q=>k c v q) (λc q=>by rw [ai (ak q hn)];exact q) λc xs q=>by rw [ai (ak q hn)];exact q
end
theorem Rd.ok (r:Rd H a u) (x:iO P w H h):dE P w H h a u:=by
 rcases r with r|⟨o,r⟩
 .exact x a u r
 .obtain ⟨_,q⟩:=x a _ r;exact q
noncomputable def Nh:Option HO->Prop
 |some (.lst _)=>True
 |some (.dK _)=>True
 |some (.dT _)=>True
 |some (.set _ _)=>True
 |some (.ins _ _ _)=>True
 |some (.ext _)=>True
 |_=>False
section
variable {P:SN} {w:S_} {H:Hp} {h h':Ti} {x e:KE} {o':HO}
theorem iO.write (ok:iO P w H h) (mu:Nh (H x)) (he:e=x\/H e=some (.own x)) (k:∀b u,b≠e->h.get? b=some u->h'.get? b=some u) (heo:∃u,h'.get? e=some u)
 (new:dE P w (upd H x o') h' x o'):iO P w (upd H x o') h':=λb u q=>by
 have nown:∀c y,H c=some (.own y)->c≠x:=λc y r z=>by subst z;rw [r] at mu;exact mu
 have ntup:∀c xs,H c=some (.tup xs)->c≠x:=λc xs r z=>by subst z;rw [r] at mu;exact mu
 by_cases hb:b=x
 .subst hb;rw [ae] at q;cases q;exact new
 .rw [ai hb] at q;by_cases hbe:b=e
  .have q':H b=some (.own x):=by
    rcases he with z|z
    .exact absurd (hbe.trans z) hb
    .rw [hbe];exact z
   rw [q] at q';cases q';obtain ⟨v,hv⟩:=heo;exact #[v,by rw [hbe];exact hv]
  .refine (ok b u q).vp (λc v hc r=>k c v ?_ r) (λc r=>by rw [ai (nown c b r)];exact r) λc xs r=>by rw [ai (ntup c xs r)];exact r
   rcases hc with rfl|hc
   .exact hbe
   .rintro rfl;rcases he with z|z
    .exact nown c b hc z
    .rw [hc] at z;cases z;exact hb rfl
end
structure Un (fs ex:List KE) (H H':Hp) (h h':Ti):Prop where
 keep:∀b o,h.get? b=some o->H b=none->b∉fs->b∉ex->h'.get? b=some o
 slot:∀b o,h.get? b=some o->H b=none->b∈fs->b∉ex->∃sl,h'.get? b=some {o with slots:=sl}
 free:∀b o,h.get? b=some o->H b=none->b∉ex->H' b=none
 there:∀b o,h.get? b=some o->b∉ex->∃o',h'.get? b=some o'
 mR:∀b xs,H b=some (.tup xs)->H' b=some (.tup xs)
 p_:∀b o u,H b=some (.u0 o u)->H' b=some (.u0 o u)
 qa:∀b ps,H b=some (.jC ps)->∃more,H' b=some (.jC (ps++more))
section
variable {fs fs' ex ex':List KE} {H H1 H2:Hp} {h h1 h2 h':Ti} {a x e:KE} {o:HO}
theorem Un.any (u:Un fs ex H H1 h h1) (q:h.get? b=some ob) (n:H b=none) (hx:b∉ex):∃sl,h1.get? b=some {ob with slots:=sl}:=by
 by_cases hb:b∈fs
 .exact u.slot b ob q n hb hx
 .exact #[ob.slots,u.keep b ob q n hb hx]
theorem Un.kept (k:∀b u,h.get? b=some u->h'.get? b=some u):Un fs ex H H h h':=
 #[λb ob q _ _ _=>k b ob q,λb ob q _ _ _=>#[ob.slots,k b ob q],λ_ _ _ n _=>n,λb ob q _=>#[ob,k b ob q],λ_ _ q=>q,λ_ _ _ q=>q,λ_ ps q=>#[#[],by rw [q];simp]]
theorem Un.refl:Un fs ex H H h h:=Un.kept λ_ _ q=>q
theorem Un.laid (k:∀b u,h.get? b=some u->h'.get? b=some u) (hp:h.objs.size<=a) (hn:H a=none):Un fs ex H (upd H a o) h h' where
 keep:=λb u q _ _ _=>k b u q
 slot:=λb u q _ _ _=>#[u.slots,k b u q]
 free:=λb u q n _=>by rw [ai (Tu (SS (SK q) hp))];exact n
 there:=λb u q _=>#[u,k b u q]
 mR:=λb xs q=>by rw [ai (ak q hn)];exact q
 p_:=λb u xs q=>by rw [ai (ak q hn)];exact q
 qa:=λb ps q=>#[#[],by rw [ai (ak q hn),q];simp]
theorem Un.write (mu:Nh (H x)) (he:e=x\/H e=some (.own x)) (k:∀b u,b≠e->h.get? b=some u->h'.get? b=some u) (heo:∃u,h'.get? e=some u):Un fs ex H (upd H x o) h h':=by
 have hx:∀b,H b=none->b≠x:=λb n z=>by subst z;rw [n] at mu;exact mu
 have hb:∀b,H b=none->b≠e:=λb n z=>by
  subst z;rcases he with r|r
  .exact hx b n r
  .rw [n] at r;cases r
 have hm:∀b u,H b=some u->¬Nh (some u)->b≠x:=λb u q nm z=>by subst z;rw [q] at mu;exact nm mu
 refine #[λb u q n _ _=>k b u (hb b n) q,λb u q n _ _=>#[u.slots,k b u (hb b n) q],λb u q n _=>by rw [ai (hx b n)];exact n,λb u q _=>?_,
  λb xs q=>by rw [ai (hm b _ q λz=>z)];exact q,λb u xs q=>by rw [ai (hm b _ q λz=>z)];exact q,λb ps q=>#[#[],by rw [ai (hm b _ q λz=>z),q];simp]]
 by_cases hbe:b=e
 .subst hbe;exact heo
 .exact #[u,k b u hbe q]
end
noncomputable def Ku (h:Ti) (H:Hp):List KE:=(SR h.objs.size).filter λa=>(H a).isSome
noncomputable def vq (h:Ti) (H:Hp):Ti:=TZ h (Ku h H)
theorem Er (h:Ti) (H:Hp):(vq h H).objs.size=h.objs.size:=PySem.W.hideAll_size _ _
theorem FC (e:h.get? b=some o) (n:H b=none):(vq h H).get? b=some o:=
 PySem.W.hideAll_get _ e λhm=>by have q:(H b).isSome=true:=(List.mem_filter.mp hm).2;rw [n] at q;simp at q
theorem Ia (e:(vq h H).get? b=some o):h.get? b=some o/\H b=none:=by
 have e':h.get? b=some o:=UL (Ku h H) e;refine #[e',?_];cases q:H b with
 |none=>rfl
 |some x=>have hm:b∈Ku h H:=List.mem_filter.mpr #[(TU).mpr (SK e'),by simp [q]];have z:(vq h H).get? b=none:=PySem.W.hideAll_none (Ku h H) hm;rw [z] at e;cases e
end L2
namespace L2
open PySem PySem.Spec PyProof.Rows
structure Mod (K:UT) (mg:Str->Option UU) (base:Ti):Prop where
 Kv:K.In base
 glob:base.Ns mainGlobals mg
 blt:∃mb,base.Ns builtinsNs mb/\∀x:Str,x≠ "__name__" ->mb x=bootBuiltins x
 nolimit:base.NoLimit
structure Cx where
 prog:SN
 w:S_
 K:UT
 mg:Str->Option UU
 base:Ti
 A:Tl
 N:List Str
 sr:Se
 M3:Hp
 env:Env
 outer:List Env
 stack:List Env
 ex:List KE
 fn:Str->Bool
 calm:Bool
 pn:List (KE×Obj)
 xe:UU->Se->Prop
noncomputable def j0 (l:List Env):List KE:=l.filterMap (·.frame)
noncomputable abbrev Cx.fs (X:Cx):List KE:=j0 X.outer
def Ib (sc:Uz) (x:Str):Prop:=sc.names.lookup x=some .local\/sc.names.lookup x=some .cell\/sc.names.lookup x=some .free
def Loc (sc:Uz) (x:Str):Prop:=sc.names.lookup x=some .local\/sc.names.lookup x=some .cell
def Look (env:Env) (h:Ti) (m:Str->Option UU) (x:Str) (u:UU):Prop:=
 (env.kindOf x=some .local/\m x=some u)\/((env.kindOf x=some .cell\/env.kindOf x=some .free)/\∃c,env.cells.lookup x=some c/\h.IsCell c (some u))
structure Cx.Ok (X:Cx):Prop where
 mod:Mod X.K X.mg X.base
 kind:X.env.scope.kind= .function
 glob:X.env.globals=mainGlobals
 blt:X.env.builtins=builtinsNs
 above:X.sr.heap.objs.size<=X.env.locals
 inj:∀x y c,X.env.cells.lookup x=some c->X.env.cells.lookup y=some c->x=y
 has:∀x,(X.env.kindOf x=some .cell\/X.env.kindOf x=some .free)->∃c,X.env.cells.lookup x=some c
 Kw:∀x c,X.fn x=true->X.env.cells.lookup x=some c->X.sr.heap.objs.size<=c
 hd:X.calm=true->X.A.handled=none
 frames:X.A.frames=some X.stack
 M4:X.stack=X.outer\/(X.stack=X.env::X.outer/\X.env.frame=some X.env.locals)
 M5:∀b∈X.ex,b≠X.env.locals/\∀x c,X.env.cells.lookup x=some c->c≠b
 bs:∀b o,X.base.get? b=some o->X.sr.heap.get? b=some o/\X.M3 b=none
 Es:X.base.objs.size<=X.sr.heap.objs.size
 B_:∀b o,X.base.get? b=some o->b∉X.ex
 Ca:∀b∈X.ex,b∉X.fs
 mS:X.sr.heap.FunFrames X.base X.outer
 HP:∀b∈X.fs,X.M3 b=none
structure Inv (X:Cx) (pins:List (KE×Obj)) (σ:List (Option V)) (H:Hp) (s:Se):Prop where
 ok:X.Ok
 os:s.os=X.sr.os
 bare:AllBare s.gens
 base:Un X.fs X.ex X.M3 H X.sr.heap s.heap
 loc:∃m,s.heap.Ns X.env.locals m/\∀(i:Nat) (x:Str) (v:V),X.N[i]? =some x->σ[i]? =some (some v)->Ib X.env.scope x->∃u,RelV v u/\Look X.env s.heap m x u
 cell:∀x c,X.env.cells.lookup x=some c->∃v,s.heap.IsCell c v
 free:H X.env.locals=none
 gB:∀x c,X.env.cells.lookup x=some c->H c=none
 pin:∀p∈X.pn++pins,s.heap.get? p.1=some p.2/\H p.1=none/\p.1≠X.env.locals/\p.1∉X.fs/\∀v,p.2.data≠.cell v
 a7:iO X.prog X.w H s.heap
 len:σ.length=X.N.length
section
variable {X:Cx} {pins:List (KE×Obj)} {σ:List (Option V)} {H H':Hp} {s:Se} {h':Ti}
theorem Cx.Ok.PV (ok:X.Ok) (e:X.base.get? b=some o):b∉X.fs:=λhb=>by have:=(ok.mS.mem hb).1;rw [e] at this;cases this
theorem Inv.bs (I:Inv X pins σ H s):∀b o,X.base.get? b=some o->s.heap.get? b=some o/\H b=none:=λb o e=>#[I.base.keep b o (I.ok.bs b o e).1 (I.ok.bs b o e).2 (I.ok.PV e) (I.ok.B_ b o e),I.base.free b o (I.ok.bs b o e).1 (I.ok.bs b o e).2 (I.ok.B_ b o e)]
theorem Inv.bk (I:Inv X pins σ H s):∀b o,X.base.get? b=some o->s.heap.get? b=some o:=λb o e=>(I.bs b o e).1
theorem Inv.mod (I:Inv X pins σ H s):Mod X.K X.mg X.base:=I.ok.mod
theorem Inv.sR (I:Inv X pins σ H s):X.K.In s.heap:=I.ok.mod.Kv.keeps I.bk
theorem Inv.nolimit (I:Inv X pins σ H s):s.heap.NoLimit:=I.ok.mod.nolimit.keeps I.bk
theorem Inv.fr (I:Inv X pins σ H s):∃m,Fr X.base X.env.locals s.heap m:=
 let ⟨m,hn,_⟩:=I.loc
 #[m,hn,I.bk,SA I.ok.Es I.ok.above]
theorem Inv.lt (I:Inv X pins σ H s):X.env.locals<s.heap.objs.size:=let ⟨_,hn,_⟩:=I.loc;hn.lt
theorem Inv.sz (I:Inv X pins σ H s):X.sr.heap.objs.size<=s.heap.objs.size:=SA I.ok.above (T6 I.lt)
theorem Inv.Kx (I:Inv X pins σ H s) (h:s.heap.objs.size<=a):a∉X.fs:=λhb=>by obtain ⟨_,o,ho,_⟩:=I.ok.mS.mem hb;exact absurd (SS (SK ho) (SA I.sz h)) (Tr _)
theorem Inv.Ky (I:Inv X pins σ H s):∀x c,X.env.cells.lookup x=some c->c≠X.env.locals:=λx c e z=>by obtain ⟨v,o,ho,hd⟩:=I.cell x c e;obtain ⟨m,⟨o',es,ep,ho',hd',_⟩,_⟩:=I.loc;rw [z,ho'] at ho;cases ho;rw [hd'] at hd;cases hd
theorem Inv.mS (I:Inv X pins σ H s):s.heap.FunFrames X.base X.outer:=by
 have all:∀(l:List Env),(∀b∈j0 l,b∈X.fs)->X.sr.heap.FunFrames X.base l->s.heap.FunFrames X.base l:=by
  intro l;induction l with
  |nil=>intro _ _;trivial
  |cons env r ih=>intro hs hl;obtain ⟨hk,⟨L,o,hf,hn,ho,hd⟩,hr⟩:=hl;have hL:L∈X.fs:=hs L (by unfold j0;rw [UK,hf];exact Sk);obtain ⟨sl,e⟩:=I.base.slot L o ho (I.ok.HP L hL) hL λz=>I.ok.Ca L z hL;exact #[hk,#[L,_,hf,hn,e,hd],ih (λb hb=>hs b (by unfold j0;rw [UK,hf];exact Sh _ hb)) hr]
 exact all X.outer (λ_ hb=>hb) I.ok.mS
theorem Inv.stack (I:Inv X pins σ H s):s.heap.FunFrames X.base X.stack:=by
 rcases I.ok.M4 with e|⟨e,hf⟩
 .rw [e];exact I.mS
 .rw [e];obtain ⟨m,hn,_⟩:=I.loc;refine .cons (by rw [I.ok.kind];decide) hf hn ?_ I.mS;exact Ti.get?_none_of_le (SA I.ok.Es I.ok.above)
theorem Inv.sT (I:Inv X pins σ H s):∀b∈j0 X.stack,b∈X.env.locals::X.fs:=λb hb=>by
 rcases I.ok.M4 with e|⟨e,hf⟩
 .rw [e] at hb;exact Sh _ hb
 .rw [e] at hb;unfold j0 at hb;rw [UK,hf] at hb;exact hb
theorem Inv.my (I:Inv X pins σ H s):∀b∈j0 X.stack,H b=none:=λb hb=>by
 rcases (Sg).mp (I.sT b hb) with e|hb
 .rw [e];exact I.free
 .obtain ⟨_,o,ho,_⟩:=I.ok.mS.mem hb;exact I.base.free b o ho (I.ok.HP b hb) λz=>I.ok.Ca b z hb
theorem Inv.step {g':Array GenState} {t':Nat} {d':Drawn} {ch:List KE} (I:Inv X pins σ H s)
 (hch:∀b∈ch,(b∈X.ex\/X.sr.heap.objs.size<=b)/\b≠X.env.locals/\(∀x c,X.env.cells.lookup x=some c->c≠b)/\∀p∈X.pn++pins,p.1≠b)
 (keep:∀b o,b≠X.env.locals->b∉X.fs->b∉ch->s.heap.get? b=some o->H b=none->h'.get? b=some o)
 (slot:∀b o,b≠X.env.locals->b∈X.fs->b∉ch->s.heap.get? b=some o->H b=none->∃sl,h'.get? b=some {o with slots:=sl}) (free:∀b o,b∉ch->s.heap.get? b=some o->H b=none->H' b=none)
 (there:∀b o,b∉ch->s.heap.get? b=some o->∃o',h'.get? b=some o')
 (mR:∀b xs,H b=some (.tup xs)->H' b=some (.tup xs)) (p_:∀b o u,H b=some (.u0 o u)->H' b=some (.u0 o u)) (qa:∀b ps,H b=some (.jC ps)->∃more,H' b=some (.jC (ps++more)))
 (ns:∀m,s.heap.Ns X.env.locals m->h'.Ns X.env.locals m) (a7:iO X.prog X.w H' h') (hg:AllBare g'):
 Inv X pins σ H' {s with heap:=h',gens:=g',drawn:=d',toks:=t'}:=by
 have neL:∀b o,X.sr.heap.get? b=some o->b≠X.env.locals:=λb o e=>Tu (SS (SK e) I.ok.above);have neC:∀b o,X.sr.heap.get? b=some o->b∉X.ex->b∉ch:=λb o e hx hb=>by
  rcases (hch b hb).1 with z|z
  .exact hx z
  .exact absurd (SS (SK e) z) (Tr _)
 have cellK:∀x c,X.env.cells.lookup x=some c->∀v,s.heap.IsCell c v->h'.IsCell c v:=λx c e v #[o,ho,hd]=>by
  have nch:c∉ch:=λz=>(hch c z).2.2.1 x c e rfl;by_cases hc:c∈X.fs
  .obtain ⟨sl,q⟩:=slot c o (I.Ky x c e) hc nch ho (I.gB x c e);exact #[_,q,hd]
  .exact #[o,keep c o (I.Ky x c e) hc nch ho (I.gB x c e),hd]
 refine #[I.ok,I.os,hg,#[λb o e n hb hx=>?_,λb o e n hb hx=>?_,λb o e n hx=>?_,λb o e hx=>?_,λb xs e=>mR b xs (I.base.mR b xs e),λb o xs e=>p_ b o xs (I.base.p_ b o xs e),λb ps e=>?_],?_,λx c e=>?_,?_,λx c e=>?_,λp hp=>?_,a7,I.len]
 .exact keep b o (neL b o e) hb (neC b o e hx) (I.base.keep b o e n hb hx) (I.base.free b o e n hx)
 .obtain ⟨sl,e1⟩:=I.base.slot b o e n hb hx;obtain ⟨sl',e2⟩:=slot b _ (neL b o e) hb (neC b o e hx) e1 (I.base.free b o e n hx);exact #[sl',e2]
 .obtain ⟨o',e1⟩:=I.base.there b o e hx;exact free b o' (neC b o e hx) e1 (I.base.free b o e n hx)
 .obtain ⟨o',e1⟩:=I.base.there b o e hx;exact there b o' (neC b o e hx) e1
 .obtain ⟨m1,e1⟩:=I.base.qa b ps e;obtain ⟨m2,e2⟩:=qa b _ e1;exact #[m1++m2,by rw [e2,Array.append_assoc]]
 .obtain ⟨m,hn,hl⟩:=I.loc;refine #[m,ns m hn,λi x v e1 e2 e3=>?_];obtain ⟨u,r,l⟩:=hl i x v e1 e2 e3;refine #[u,r,?_];rcases l with l|⟨k,c,e,z⟩
  .exact .inl l
  .exact .inr #[k,c,e,cellK x c e _ z]
 .obtain ⟨v,z⟩:=I.cell x c e;exact #[v,cellK x c e v z]
 .obtain ⟨m,⟨o,_,_,ho,_⟩,_⟩:=I.loc;exact free _ o (λz=>(hch _ z).2.1 rfl) ho I.free
 .obtain ⟨v,o,ho,hd⟩:=I.cell x c e;exact free c o (λz=>(hch c z).2.2.1 x c e rfl) ho (I.gB x c e)
 .obtain ⟨e,n,ne,nf,d⟩:=I.pin p hp;have nch:p.1∉ch:=λz=>(hch p.1 z).2.2.2 p hp rfl;exact #[keep p.1 p.2 ne nf nch e n,free p.1 p.2 nch e n,ne,nf,d]
theorem Inv.un {t':Nat} (I:Inv X pins σ H s) (u:Un X.fs [] H H' s.heap h') (a7:iO X.prog X.w H' h'):Inv X pins σ H' {s with heap:=h',toks:=t'}:=by
 obtain ⟨m,⟨o,es,ep,ho,r⟩,_⟩:=id I.loc;obtain ⟨sl,hL⟩:=u.any ho I.free (by simp);exact I.step (g':=s.gens) (d':=s.drawn) (ch:=[]) nofun (λb o _ hb _ e n=>u.keep b o e n hb (by simp)) (λb o _ hb _ e n=>u.slot b o e n hb (by simp)) (λb o _ e n=>u.free b o e n (by simp)) (λb o _ e=>u.there b o e (by simp)) u.mR u.p_ u.qa (λm' hm=>by obtain ⟨o',es',ep',ho',r'⟩:=hm;rw [ho] at ho';cases ho';exact #[_,es',ep',hL,r']) a7 I.bare
theorem Inv.call {g':Array GenState} {t':Nat} {d':Drawn} {ch:List KE} (I:Inv X pins σ H s) (u:Un (j0 X.stack) ch H H' s.heap h') (a7:iO X.prog X.w H' h') (hg:AllBare g')
 (hch:∀b∈ch,(b∈X.ex\/X.sr.heap.objs.size<=b)/\b≠X.env.locals/\(∀x c,X.env.cells.lookup x=some c->c≠b)/\∀p∈X.pn++pins,p.1≠b):
 Inv X pins σ H' {s with heap:=h',gens:=g',drawn:=d',toks:=t'}:=by
 obtain ⟨m,⟨o,es,ep,ho,r⟩,_⟩:=id I.loc;obtain ⟨sl,hL⟩:=u.any ho I.free λz=>(hch _ z).2.1 rfl;exact I.step (ch:=ch) hch (λb o hL hb hc e n=>u.keep b o e n (λz=>((Sg).mp (I.sT b z)).elim hL hb) hc) (λb o _ _ hc e n=>u.any e n hc) (λb o hc e n=>u.free b o e n hc) (λb o hc e=>u.there b o e hc) u.mR u.p_ u.qa (λm' hm=>by obtain ⟨o',es',ep',ho',r'⟩:=hm;rw [ho] at ho';cases ho';exact #[_,es',ep',hL,r']) a7 hg
theorem Inv.turned {t':Nat} {it:KE} (I:Inv X pins σ H s) (k:∀b o,b≠it->s.heap.get? b=some o->h'.get? b=some o) (hn:H it=none) (hL:it≠X.env.locals)
 (h1:it∈X.ex\/X.sr.heap.objs.size<=it) (h2:∀x c,X.env.cells.lookup x=some c->c≠it) (h3:∀p∈X.pn++pins,p.1≠it):Inv X pins σ H {s with heap:=h',toks:=t'}:=by
 have nit:∀b u,H b=some u->b≠it:=λb u e z=>by rw [z,hn] at e;cases e
 refine I.step (g':=s.gens) (d':=s.drawn) (ch:=[it]) (λb hb=>?_) (λb o _ _ hc e _=>k b o (λz=>hc (by simp [z])) e) (λb o _ _ hc e _=>#[o.slots,k b o (λz=>hc (by simp [z])) e]) (λ_ _ _ _ n=>n)
  (λb o hc e=>#[o,k b o (λz=>hc (by simp [z])) e]) (λ_ _ e=>e) (λ_ _ _ e=>e) (λb ps e=>#[#[],by rw [e];simp]) (λm hm=>?_) (λb u e=>?_) I.bare
 .have e:b=it:=by simpa using hb
  subst e;exact #[h1,hL,h2,h3]
 .obtain ⟨o,es,ep,ho,r⟩:=hm;exact #[o,es,ep,k _ o (Ne.symm hL) ho,r]
 .refine (I.a7 b u e).vp (λc v hc q=>k c v ?_ q) (λ_ q=>q) λ_ _ q=>q;rcases hc with z|z
  .rw [z];exact nit b u e
  .exact nit c _ z
theorem Inv.tok (I:Inv X pins σ H s) (t:Nat):Inv X pins σ H {s with toks:=t}:=I.un (h':=s.heap) (t':=t) Un.refl I.a7
theorem Inv.kept {t':Nat} (I:Inv X pins σ H s) (k:∀b u,s.heap.get? b=some u->h'.get? b=some u):Inv X pins σ H {s with heap:=h',toks:=t'}:=I.un (Un.kept k) (I.a7.kept k)
theorem Inv.laid {t':Nat} (I:Inv X pins σ H s) (k:∀b u,s.heap.get? b=some u->h'.get? b=some u) (hp:s.heap.objs.size<=a) (new:dE X.prog X.w (upd H a o) h' a o):
 Inv X pins σ (upd H a o) {s with heap:=h',toks:=t'}:=I.un (Un.laid k hp (I.a7.fresh hp)) (I.a7.laid k hp new)
theorem Inv.write {t':Nat} (I:Inv X pins σ H s) (mu:Nh (H x)) (he:e=x\/H e=some (.own x)) (k:∀b u,b≠e->s.heap.get? b=some u->h'.get? b=some u) (heo:∃u,h'.get? e=some u)
 (new:dE X.prog X.w (upd H x o) h' x o):Inv X pins σ (upd H x o) {s with heap:=h',toks:=t'}:=I.un (Un.write mu he k heo) (I.a7.write mu he k heo new)
theorem Inv.weak (I:Inv X pins σ H s) (hl:σ'.length=σ.length) (w:∀(i:Nat) v,σ'[i]? =some (some v)->σ[i]? =some (some v)):Inv X pins σ' H s:=
 #[I.ok,I.os,I.bare,I.base,let ⟨m,hn,hl'⟩:=I.loc;⟨m,hn,λi x v e1 e2 e3=>hl' i x v e1 (w i v e2) e3⟩,I.cell,I.free,I.gB,I.pin,I.a7,hl.trans I.len]
theorem Inv.xH (I:Inv X pins σ H s) (h:∀p∈pins',s.heap.get? p.1=some p.2/\H p.1=none/\p.1≠X.env.locals/\p.1∉X.fs/\∀v,p.2.data≠.cell v):Inv X pins' σ H s:=
 #[I.ok,I.os,I.bare,I.base,I.loc,I.cell,I.free,I.gB,λp hp=>((SU).mp hp).elim (λz=>I.pin p (List.mem_append_left _ z)) (h p),I.a7,I.len]
theorem sU {N:List Str} (hN:N.Nodup) {i j:Nat} {x:Str} (a:N[i]? =some x) (b:N[j]? =some x):i=j:=by obtain ⟨h1,e1⟩:=(Sl).mp a;obtain ⟨h2,e2⟩:=(Sl).mp b;exact (List.getElem_inj hN).mp (e1.trans e2.symm)
theorem wq {M:Model} {A:Tl} {E:UU->Se->Prop} {i:Nat} {x:Str} {v:V} {u:UU} {Q:Unit->Se->Prop} (I:Inv X pins σ H s) (hN:X.N.Nodup) (hi:X.N[i]? =some x) (hx:Loc X.env.scope x) (r:RelV v u)
 (h:∀s',Inv X pins (σ.set i (some v)) H s'->(∃a,Ti.SameBut a s.heap s'.heap/\(a=X.env.locals\/X.env.cells.lookup x=some a))->Q () s') (hf:X.fn x=true\/X.env.scope.names.lookup x=some .local:=by first|exact .inl rfl|exact .inr rfl|assumption):wpAny M A (storeName X.env x u) Q E s:=by
 obtain ⟨m,hn,hl⟩:=id I.loc;have hcls:(X.env.scope.kind== .class||(X.env.scope.kind== .module&&X.env.locals !=X.env.globals))=false:=by rw [I.ok.kind];rfl
 have hiσ:i<σ.length:=by rw [I.len];exact ((Sl).mp hi).1
 have Ky:=I.Ky;have tracked:∀{a:KE} {h':Ti},(∃o,s.heap.get? a=some o/\H a=none)->Ti.SameBut a s.heap h'->iO X.prog X.w H h':=λ{a h'} ha hs b ob e=>by
  obtain ⟨_,_,hfree⟩:=ha;refine (I.a7 b ob e).vp (λc w' hc q=>(hs.2 c ?_).trans q) (λ_ q=>q) λ_ _ q=>q;rintro rfl;rcases hc with rfl|hc
  .rw [hfree] at e;cases e
  .rw [hfree] at hc;cases hc
 rcases hx with hk|hk
 .refine wpAny_storeName_local hk hn (λh' hn' hs=>?_) hcls;obtain ⟨oL,_,_,hoL,_⟩:=id hn;refine h _ #[I.ok,I.os,I.bare,#[λb o e n hb hx=>?_,λb o e n hb hx=>?_,I.base.free,λb o e hx=>?_,I.base.mR,I.base.p_,I.base.qa],#[_,hn',λj y v' e1 e2 e3=>?_],λy c e=>?_,I.free,I.gB,λp hp=>?_,tracked #[oL,hoL,I.free] hs,by simpa using I.len] #[_,hs,.inl rfl]
  .exact (hs.2 b (Tu (SS (SK e) I.ok.above))).trans (I.base.keep b o e n hb hx)
  .obtain ⟨sl,e1⟩:=I.base.slot b o e n hb hx;exact #[sl,(hs.2 b (Tu (SS (SK e) I.ok.above))).trans e1]
  .obtain ⟨o',e1⟩:=I.base.there b o e hx;exact #[o',(hs.2 b (Tu (SS (SK e) I.ok.above))).trans e1]
  .by_cases hj:j=i
   .subst hj;rw [hi] at e1;cases e1;rw [List.getElem?_set_self hiσ] at e2;cases e2;exact #[u,r,.inl #[hk,by simp]]
   .rw [List.getElem?_set_ne (Ne.symm hj)] at e2;obtain ⟨u',r',q⟩:=hl j y v' e1 e2 e3;refine #[u',r',?_];rcases q with ⟨k,e⟩|⟨k,c,e,z⟩
    .refine .inl #[k,?_];have:y≠x:=λe=>hj (sU hN e1 (e▸hi));simp [this,e]
    .exact .inr #[k,c,e,z.sameBut hs (Ky y c e)]
  .obtain ⟨w',z⟩:=I.cell y c e;exact #[w',z.sameBut hs (Ky y c e)]
  .obtain ⟨e,n,ne,nf,d⟩:=I.pin p hp;exact #[(hs.2 p.1 ne).trans e,n,ne,nf,d]
 .have hfn:X.fn x=true:=by
   rcases hf with z|z
   .exact z
   .rw [z] at hk;cases hk
  obtain ⟨c,hc⟩:=I.ok.has x (.inl hk);obtain ⟨w',z⟩:=I.cell x c hc;refine wpAny_storeName_cell I.ok.kind hk hc z (λh' hc' hs=>?_);obtain ⟨oc,hoc,hocd⟩:=id z;refine h {s with heap:=h'} #[I.ok,I.os,I.bare,#[λb o e n hb hx=>?_,λb o e n hb hx=>?_,I.base.free,λb o e hx=>?_,I.base.mR,I.base.p_,I.base.qa],#[m,hn.sameBut hs (Ne.symm (Ky x c hc)),λj y v' e1 e2 e3=>?_],λy c' e=>?_,I.free,I.gB,λp hp=>?_,tracked #[oc,hoc,I.gB x c hc] hs,by simpa using I.len] #[c,hs,.inr hc]
  .exact (hs.2 b (Tu (SS (SK e) (I.ok.Kw x c hfn hc)))).trans (I.base.keep b o e n hb hx)
  .obtain ⟨sl,e1⟩:=I.base.slot b o e n hb hx;exact #[sl,(hs.2 b (Tu (SS (SK e) (I.ok.Kw x c hfn hc)))).trans e1]
  .obtain ⟨o',e1⟩:=I.base.there b o e hx;exact #[o',(hs.2 b (Tu (SS (SK e) (I.ok.Kw x c hfn hc)))).trans e1]
  .by_cases hj:j=i
   .subst hj;rw [hi] at e1;cases e1;rw [List.getElem?_set_self hiσ] at e2;cases e2;exact #[u,r,.inr #[.inl hk,c,hc,hc']]
   .rw [List.getElem?_set_ne (Ne.symm hj)] at e2;obtain ⟨u',r',q⟩:=hl j y v' e1 e2 e3;refine #[u',r',?_];rcases q with q|⟨k,c',e,z'⟩
    .exact .inl q
    .refine .inr #[k,c',e,z'.sameBut hs ?_];rintro rfl;exact hj (sU hN e1 (I.ok.inj _ _ _ e hc▸hi))
  .by_cases hcc:c'=c
   .subst hcc;exact #[_,hc']
   .obtain ⟨w2,z2⟩:=I.cell y c' e;exact #[w2,z2.sameBut hs hcc]
  .obtain ⟨e,n,ne,nf,d⟩:=I.pin p hp;refine #[(hs.2 p.1 ?_).trans e,n,ne,nf,d];intro q;rw [q,hoc] at e;have q':oc=p.2:=Sd e;exact d w' (by rw [<-q'];exact hocd)
theorem sV {E:UU->Se->Prop} {i:Nat} {Q:Unit->Se->Prop} (I:Inv X pins σ H s) (hN:X.N.Nodup) (hi:X.N[i]? =some x) (hx:Loc X.env.scope x) (r:RelV v u)
 (h:∀s',Inv X pins (σ.set i (some v)) H s'->Q () s') (hf:X.fn x=true\/X.env.scope.names.lookup x=some .local:=by first|exact .inl rfl|exact .inr rfl|assumption):wpAny M A (storeName X.env x u) Q E s:=
 wq I hN hi hx r (λs' I' _=>h s' I') hf
theorem Inv.wr (I:Inv X pins σ H s) (ho:s'.os=s.os) (u:Un (j0 X.stack) ch H H' s.heap s'.heap) (a7:iO X.prog X.w H' s'.heap) (hg:AllBare s'.gens)
 (hch:∀b∈ch,(b∈X.ex\/X.sr.heap.objs.size<=b)/\b≠X.env.locals/\(∀x c,X.env.cells.lookup x=some c->c≠b)/\∀p∈X.pn++pins,p.1≠b):Inv X pins σ H' s':=by
 obtain ⟨h',g',d',t',o'⟩:=s';have e:o'=s.os:=ho;subst e;exact I.call (g':=g') (t':=t') (d':=d') u a7 hg hch
end
noncomputable abbrev XK:=UU->Option KE->Hp->Prop
noncomputable abbrev St:=List (Option V)
noncomputable abbrev VK:=V->Hp->Prop
noncomputable abbrev TE:=St->Hp->VK->Prop
noncomputable abbrev TT:=St->Hp->(Bool->Hp->Prop)->Prop
noncomputable abbrev TA:=St->Hp->(List V->Hp->Prop)->Prop
structure Ends where
 nx:St->Hp->Prop
 rt:VK
 bk:St->Hp->Prop:=λ_ _=>False
 ct:St->Hp->Prop:=λ_ _=>False
noncomputable abbrev TS:=Ends->St->Hp->Prop
def EP (X:Cx) (pins:List (KE×Obj)) (σ:St) (Q:VK) (u:UU) (s':Se):Prop:=∃v H',Inv X pins σ H' s'/\RelV v u/\Q v H'
def TP (X:Cx) (pins:List (KE×Obj)) (σ:St) (Q:Bool->Hp->Prop) (b:Bool) (s':Se):Prop:=∃H',Inv X pins σ H' s'/\Q b H'
def AP (X:Cx) (pins:List (KE×Obj)) (σ:St) (Q:List V->Hp->Prop) (us:List UU) (s':Se):Prop:=∃vs H',Inv X pins σ H' s'/\Vals vs us/\Q vs H'
def SP (X:Cx) (pins:List (KE×Obj)) (D:Ends) (f:Flow) (s':Se):Prop:=
 match f with
 | .next=>∃σ' H',Inv X pins σ' H' s'/\D.nx σ' H'
 | .brk=>∃σ' H',Inv X pins σ' H' s'/\D.bk σ' H'
 | .cont=>∃σ' H',Inv X pins σ' H' s'/\D.ct σ' H'
 | .ret u=>∃v σ' H',Inv X pins σ' H' s'/\RelV v u/\D.rt v H'
def PE (X:Cx) (e:Expr) (t:TE):Prop:=
 ∀(pins:List (KE×Obj)) (s:Se) (σ:St) (H:Hp) (Q:VK),Inv X pins σ H s->t σ H Q->wpAny (model X.prog X.w) X.A (eval e X.env) (EP X pins σ Q) X.xe s
def PT (X:Cx) (e:Expr) (t:TT):Prop:=
 ∀(pins:List (KE×Obj)) (s:Se) (σ:St) (H:Hp) (Q:Bool->Hp->Prop),Inv X pins σ H s->t σ H Q->wpAny (model X.prog X.w) X.A (isTrue e X.env (eval e X.env)) (TP X pins σ Q) X.xe s
def PW (X:Cx) (e:Expr) (t:TT):Prop:=
 ∀(whole:Sem UU) (pins:List (KE×Obj)) (s:Se) (σ:St) (H:Hp) (Q:Bool->Hp->Prop),Inv X pins σ H s->t σ H Q->wpAny (model X.prog X.w) X.A (isTrue e X.env whole) (TP X pins σ Q) X.xe s
theorem PW.pt (h:PW X e t):PT X e t:=h _
def PA (X:Cx) (es:List Expr) (t:TA):Prop:=
 ∀(pos:Pos) (pins:List (KE×Obj)) (s:Se) (σ:St) (H:Hp) (Q:List V->Hp->Prop),Inv X pins σ H s->t σ H Q->wpAny (model X.prog X.w) X.A (spliced (backTo pos (starEach es X.env))) (AP X pins σ Q) X.xe s
def PS (X:Cx) (st:Stmt) (t:TS):Prop:=
 ∀(pins:List (KE×Obj)) (s:Se) (σ:St) (H:Hp) (D:Ends),Inv X pins σ H s->t D σ H->wpAny (model X.prog X.w) X.A (exec st X.env) (SP X pins D) X.xe s
def uY (X:Cx) (st:List Stmt) (t:TS):Prop:=
 ∀(pins:List (KE×Obj)) (s:Se) (σ:St) (H:Hp) (D:Ends),Inv X pins σ H s->t D σ H->wpAny (model X.prog X.w) X.A (execs st X.env) (SP X pins D) X.xe s
theorem ci {α:Type} {t:Sem α} {Q Q':α->Se->Prop} {E:UU->Se->Prop} (h:wpAny M A t Q E s) (hQ:∀a s,Q a s->Q' a s):wpAny M A t Q' E s:=TJ h hQ λ_ _ x=>x
end L2
namespace L2
open PySem PySem.Spec PyProof.Rows
section
variable {X:Cx}
theorem bin (ha:PE X a ta) (hb:PE X b tb) {R:V->V->Hp->Prop} (I:Inv X pins σ H s) (h:ta σ H λx H1=>tb σ H1 λy H2=>R x y H2)
 {α:Type} {Q:α->Se->Prop} {f:UU->UU->Sem α}
 (hf:∀v u s2 x y H2,Inv X pins σ H2 s2->RelV x v->RelV y u->R x y H2->wpAny (model X.prog X.w) X.A (f v u) Q X.xe s2):
 wpAny (model X.prog X.w) X.A (eval a X.env) (λv s₁=>wpAny (model X.prog X.w) X.A (eval b X.env) (λu s₂=>wpAny (model X.prog X.w) X.A (f v u) Q X.xe s₂) X.xe s₁) X.xe s:=by
 refine ci (ha pins s σ H _ I h) λv s1 zq=>?_;obtain ⟨x,H1,I1,r1,q1⟩:=zq;refine ci (hb pins s1 σ H1 _ I1 q1) λu s2 zq=>?_;obtain ⟨y,H2,I2,r2,q2⟩:=zq;exact hf v u s2 x y H2 I2 r1 r2 q2
noncomputable def nU (i:Nat):TE:=λσ H Q=>∃v,σ[i]? =some (some v)/\Q v H
noncomputable def tC (v:V):TE:=λ_ H Q=>Q v H
theorem Kz {i:Nat} (hN:X.N[i]? =some x) (hv:Ib X.env.scope x) (hd:(x==("__debug__" :Str))=false:=by decide) (hcd:(x==("__classdict__" :Str))=false:=by decide):PE X (.Name x pos) (nU i):=by
 intro pins s σ H Q I h;obtain ⟨v,e,h⟩:=h;obtain ⟨m,hn,hl⟩:=I.loc;obtain ⟨u,r,l⟩:=hl i x v hN e hv;have fin:EP X pins σ Q u s:=#[v,H,I,r,h];rcases l with ⟨hk,hm⟩|⟨hk,c,hc,hcell⟩
 .exact wpAny_Name (wpAny_loadName_local I.ok.kind hk hn hm fin) hd
 .rcases hk with hk|hk
  .exact wpAny_Name (wpAny_loadName_cell I.ok.kind hk hc hcell fin) hd
  .exact wpAny_Name (wpAny_loadName_free I.ok.kind hk hc hcell fin hcd) hd
theorem ag {i j pos}:PE X (.Constant (.int i) j pos) (tC (.int i)):=λ_ _ _ H _ I h=>wpAny_Constant_int #[.int i,H,I.tok _,#[_,rfl],h]
theorem kY {b j pos}:PE X (.Constant (.bool b) j pos) (tC (.bl b)):=λ_ _ _ H _ I h=>Constant_bool #[.bl b,H,I,rfl,h]
theorem dv {j pos}:PE X (.Constant .none j pos) (tC .bZ):=λ_ _ _ H _ I h=>Constant_none #[.bZ,H,I,rfl,h]
theorem bv {x j pos}:PE X (.Constant (.str x) j pos) (tC (.str x)):=λ_ _ _ H _ I h=>Calls.Constant_str #[.str x,H,I.tok _,#[_,rfl],h]
def Gl (X:Cx) (x:Str):Prop:=X.env.kindOf x=some .globalImplicit
theorem mz {E:UU->Se->Prop} {Q:UU->Se->Prop} (I:Inv X pins σ H s) (hg:Gl X x) (hm:X.mg x=some u) (h:Q u s)
 (hd:(x==("__debug__" :Str))=false:=by decide):wpAny (model X.prog X.w) X.A (eval (.Name x pos) X.env) Q E s:=
 Calls.Name_function_global I.ok.kind hg (Calls.loadGlobal_global (by rw [I.ok.glob];exact I.mod.glob.keeps I.bk) hm h) hd
theorem qb {E:UU->Se->Prop} {Q:UU->Se->Prop} (I:Inv X pins σ H s) (hg:Gl X x) (hm:X.mg x=none) (hv:bootBuiltins x=some u) (h:Q u s)
 (hn:x≠ "__name__" :=by decide) (hd:(x==("__debug__" :Str))=false:=by decide):wpAny (model X.prog X.w) X.A (eval (.Name x pos) X.env) Q E s:=by
 obtain ⟨mb,h1,h2⟩:=I.mod.blt;exact Calls.Name_function_global I.ok.kind hg (Calls.loadGlobal_builtin (by rw [I.ok.glob];exact I.mod.glob.keeps I.bk) hm (by rw [I.ok.blt];exact h1.keeps I.bk) ((h2 x hn).trans hv) h) hd
theorem xI (hg:Gl X x) (hm:X.mg x=some u) (r:RelV v u) (hd:(x==("__debug__" :Str))=false:=by decide):PE X (.Name x pos) (tC v):=
 λ_ _ _ H _ I h=>mz I hg hm #[v,H,I,r,h] hd
variable {a b:Expr} {ta tb:TE} {pos:Pos}
def PC (X:Cx) (op:CmpOp) (a b:Expr) (t:TE):Prop:=
 ∀(pins:List (KE×Obj)) (s:Se) (σ:St) (H:Hp) (Q:VK),Inv X pins σ H s->t σ H Q->
  wpAny (model X.prog X.w) X.A (eval a X.env) (λv s₁=>wpAny (model X.prog X.w) X.A (eval b X.env) (λu s₂=>wpAny (model X.prog X.w) X.A (compareOp op v u) (EP X pins σ Q) X.xe s₂) X.xe s₁) X.xe s
noncomputable def tB (t:TE):TT:=λσ H Q=>t σ H λx H1=>∃c,x= .bl c/\Q c H1
theorem FD (h:PC X op a b t) (h1:behindInMarks op b=false:=by first|exact FE _ (by decide) (by decide)|rfl):PE X (.Compare a [op] [b] pos) t:=λpins s σ H Q I hw=>wpAny_Compare1 (h pins s σ H Q I hw) h1
theorem fh (h:PC X op a b t) (h1:behindInMarks op b=false:=by first|exact FE _ (by decide) (by decide)|rfl):PT X (.Compare a [op] [b] pos) (tB t):=by intro pins s σ H Q I hw;refine wpAny_isTrue_Compare1 (ci (h pins s σ H _ I hw) λv s1 h1=>ci h1 λu s2 h2=>ci h2 λc s3 zq=>?_) h1;obtain ⟨x,H1,I1,r1,q1⟩:=zq;obtain ⟨d,rfl,q⟩:=q1;cases r1;exact UC #[H1,I1,q]
theorem c9 (h:PE X e t) (he:∀whole,isTrue e X.env whole=(do let v<-whole;standAt e.pos;holding [v] (truthy v)):=by intro _;rfl):PT X e (tB t):=by intro pins s σ H Q I hw;refine isTrue_plain (ci (h pins s σ H _ I hw) λv s1 zq=>?_) (he _);obtain ⟨x,H1,I1,r1,q1⟩:=zq;obtain ⟨d,rfl,q⟩:=q1;cases r1;exact UC #[H1,I1,q]
variable {tA tB':TT} {rest:List Expr}
noncomputable def KA (t u:TT):TT:=λσ H Q=>t σ H λc H1=>if c=true then u σ H1 Q else Q false H1
noncomputable def PX (t u:TT):TT:=λσ H Q=>t σ H λc H1=>if c=true then Q true H1 else u σ H1 Q
noncomputable def KB (t:TT):TT:=λσ H Q=>t σ H λc H1=>Q (!c) H1
theorem oG (ha:PT X a tA):PW X (.BoolOp .And [a] pos) tA:=by
 intro wh pins s σ H Q I h;refine isTrue_and (ci (ha pins s σ H Q I h) λc s1 e=>?_);cases c with
 |true=>exact isTrue_and_nil e
 |false=>exact e
theorem jf (ha:PT X a tA):PW X (.BoolOp .Or [a] pos) tA:=by
 intro wh pins s σ H Q I h;refine isTrue_or (ci (ha pins s σ H Q I h) λc s1 e=>?_);cases c with
 |false=>exact isTrue_or_nil e
 |true=>exact e
theorem sW (ha:PT X a tA) (hb:PW X (.BoolOp .And (b::rest) pos) tB'):PW X (.BoolOp .And (a::b::rest) pos) (KA tA tB'):=by
 intro wh pins s σ H Q I h;refine isTrue_and (ci (ha pins s σ H _ I h) λc s1 zq=>?_);obtain ⟨H1,I1,q1⟩:=zq;cases c with
 |true=>exact hb wh pins s1 σ H1 Q I1 q1
 |false=>exact #[H1,I1,q1]
theorem nh (ha:PT X a tA) (hb:PW X (.BoolOp .Or (b::rest) pos) tB'):PW X (.BoolOp .Or (a::b::rest) pos) (PX tA tB'):=by
 intro wh pins s σ H Q I h;refine isTrue_or (ci (ha pins s σ H _ I h) λc s1 zq=>?_);obtain ⟨H1,I1,q1⟩:=zq;cases c with
 |true=>exact #[H1,I1,q1]
 |false=>exact hb wh pins s1 σ H1 Q I1 q1
theorem xJ (ha:PT X a tA):PT X (.UnaryOp .Not a pos) (KB tA):=by intro pins s σ H Q I h;exact isTrue_not (ha pins s σ H (λc H1=>Q (!c) H1) I h)
noncomputable def FF (ta tb:TE):TE:=λσ H Q=>ta σ H λx H1=>∃c,x= .bl c/\if c=true then tb σ H1 Q else Q (.bl false) H1
noncomputable def KC (ta tb:TE):TE:=λσ H Q=>ta σ H λx H1=>∃c,x= .bl c/\if c=true then Q (.bl true) H1 else tb σ H1 Q
noncomputable def JQ (ta:TE):TE:=λσ H Q=>ta σ H λx H1=>∃c,x= .bl c/\Q (.bl (!c)) H1
theorem sX {op} (h:PE X a t):PE X (.BoolOp op [a] pos) t:=λpins s σ H Q I hw=>BoolOp_one (h pins s σ H Q I hw)
theorem xL (ha:PE X a ta) (hb:PE X (.BoolOp .And (b::rest) pos) tb):PE X (.BoolOp .And (a::b::rest) pos) (FF ta tb):=by
 intro pins s σ H Q I h;refine BoolOp_and (ci (ha pins s σ H _ I h) λv s1 zq=>?_);obtain ⟨x,H1,I1,r1,q1⟩:=zq;obtain ⟨c,rfl,q1⟩:=q1;cases r1;refine UC ?_;cases c with
 |true=>exact hb pins s1 σ H1 Q I1 q1
 |false=>exact #[.bl false,H1,I1,rfl,q1]
theorem Ni (ha:PE X a ta) (hb:PE X (.BoolOp .Or (b::rest) pos) tb):PE X (.BoolOp .Or (a::b::rest) pos) (KC ta tb):=by
 intro pins s σ H Q I h;refine BoolOp_or (ci (ha pins s σ H _ I h) λv s1 zq=>?_);obtain ⟨x,H1,I1,r1,q1⟩:=zq;obtain ⟨c,rfl,q1⟩:=q1;cases r1;refine UC ?_;cases c with
 |false=>exact hb pins s1 σ H1 Q I1 q1
 |true=>exact #[.bl true,H1,I1,rfl,q1]
noncomputable def PY (t:TT) (ta tb:TE):TE:=λσ H Q=>t σ H λc H1=>if c=true then ta σ H1 Q else tb σ H1 Q
theorem oH (hc:PT X c tA) (ha:PE X a ta) (hb:PE X b tb):PE X (.IfExp c a b pos) (PY tA ta tb):=by
 intro pins s σ H Q I h;refine wpAny_IfExp (ci (hc pins s σ H _ I h) λd s1 zq=>?_);obtain ⟨H1,I1,q1⟩:=zq;cases d with
 |true=>exact ha pins s1 σ H1 Q I1 q1
 |false=>exact hb pins s1 σ H1 Q I1 q1
end
end L2
namespace L2
open PySem PySem.Spec PyProof.Rows
def cB (K:UT) (H:Hp) (a:KE) (xs:List V):Prop:=
 Rd H a (.lst xs)\/
  ∃(o:Obj) (its:Array UU) (n:Nat),K.lookup a=some o/\o.cls= .type "list" /\o.dict=none/\o.data= .seq its n/\its.size<=sizeLine/\Vals xs its.toList
noncomputable def PZ:UU->Option V
 | .none=>some .bZ
 | .bool b=>some (.bl b)
 | .int i _=>some (.int i)
 | .str x _=>some (.str x)
 | .bytes b _=>some (.BL b)
 | .float b _=>some (.Pt b)
 | .ref a=>some (.ref a)
 | .type n=>some (.ty n)
 |_=>none
theorem RelV.abs (r:RelV x u):PZ u=some x:=by
 cases x with
 |bZ=>cases r;rfl
 |bl _=>cases r;rfl
 |int _=>obtain ⟨t,rfl⟩:=r;rfl
 |str _=>obtain ⟨t,rfl⟩:=r;rfl
 |BL _=>obtain ⟨t,rfl⟩:=r;rfl
 |Pt _=>obtain ⟨t,rfl⟩:=r;rfl
 |ref _=>cases r;rfl
 |ty _=>cases r;rfl
theorem RelV.inj (r:RelV x u) (q:RelV y u):x=y:=Sd (r.abs.symm.trans q.abs)
theorem Vals.inj:∀{xs ys:List V} {us:List UU},Vals xs us->Vals ys us->xs=ys
 |_,_,_,.nil,.nil=>rfl
 |_,_,_,.cons r t,.cons r' t'=>by rw [r.inj r',Vals.inj t t']
section
variable {X:Cx} {pins:List (KE×Obj)} {σ:St} {H:Hp} {s:Se} {a:KE} {xs ys:List V}
theorem cB.of {K:UT} (h:H a=some (.lst xs)):cB K H a xs:=.inl (.inl h)
theorem ij.of {K:UT} (h:H a=some (.tup xs)):ij K H a xs:=.inl (.inl h)
theorem Inv.list (I:Inv X pins σ H s) (h:cB X.K H a xs):∃its:List UU,Vals xs its/\PlainL s.heap a its.toArray/\xs.length<=sizeLine:=by
 rcases h with h|⟨o,its,n,hk,hc,hd,hs,hz,r⟩
 .obtain ⟨z,its,n,r,e⟩:=h.ok I.a7;exact #[its,r,#[_,n,e,rfl,rfl,rfl],z]
 .refine #[its.toList,r,#[o,n,I.sR a o hk,hc,hd,by simpa using hs],?_];have e:=r.length;simp only [Tw] at e;omega
theorem Inv.tuple (I:Inv X pins σ H s) (h:ij X.K H a xs):∃its:List UU,Vals xs its/\IsTup s.heap a its.toArray/\xs.length<=sizeLine:=by
 rcases h with h|⟨o,its,n,hk,hc,hs,hz,r⟩
 .obtain ⟨z,its,r,p⟩:=h.ok I.a7;exact #[its,r,p,z]
 .refine #[its.toList,r,#[o,I.sR a o hk,hc,n,by simpa using hs],?_];have e:=r.length;simp only [Tw] at e;omega
theorem Inv.FG (I:Inv X pins σ H s) (h:cB X.K H a xs) (h':cB X.K H a ys):xs=ys:=by
 obtain ⟨its,r,⟨o,n,e,_,_,d⟩,_⟩:=I.list h;obtain ⟨its',r',⟨o',n',e',_,_,d'⟩,_⟩:=I.list h';rw [e] at e';cases e';rw [d] at d';injection d' with d1 _;have:its=its':=by simpa using congrArg Array.toList d1
 subst this;exact r.inj r'
theorem Inv.Et (I:Inv X pins σ H s) (h:ij X.K H a xs) (h':ij X.K H a ys):xs=ys:=by
 obtain ⟨its,r,⟨o,e,_,n,d⟩,_⟩:=I.tuple h;obtain ⟨its',r',⟨o',e',_,n',d'⟩,_⟩:=I.tuple h';rw [e] at e';cases e';rw [d] at d';injection d' with d1 _;have:its=its':=by simpa using congrArg Array.toList d1
 subst this;exact r.inj r'
end
noncomputable abbrev Cx.rK (X:Cx) (E:UU->Se->Prop):Cx:={X with xe:=E}
noncomputable abbrev Cx.FH (X:Cx):Cx:=X.rK λ_ _=>False
theorem Cx.Ok.rK {X:Cx} (ok:X.Ok) (E:UU->Se->Prop):(X.rK E).Ok:=
 #[ok.mod,ok.kind,ok.glob,ok.blt,ok.above,ok.inj,ok.has,ok.Kw,ok.hd,ok.frames,ok.M4,ok.M5,ok.bs,ok.Es,ok.B_,ok.Ca,ok.mS,ok.HP]
theorem Cx.Ok.j9 {X:Cx} {E:UU->Se->Prop} (ok:(X.rK E).Ok):X.Ok:=
 #[ok.mod,ok.kind,ok.glob,ok.blt,ok.above,ok.inj,ok.has,ok.Kw,ok.hd,ok.frames,ok.M4,ok.M5,ok.bs,ok.Es,ok.B_,ok.Ca,ok.mS,ok.HP]
section
variable {X:Cx} {pins:List (KE×Obj)} {σ:St} {H:Hp} {s:Se} {E:UU->Se->Prop}
theorem Inv.rK (I:Inv X pins σ H s) (E:UU->Se->Prop):Inv (X.rK E) pins σ H s:=#[I.ok.rK E,I.os,I.bare,I.base,I.loc,I.cell,I.free,I.gB,I.pin,I.a7,I.len]
theorem Inv.j9 (I:Inv (X.rK E) pins σ H s):Inv X pins σ H s:=#[I.ok.j9,I.os,I.bare,I.base,I.loc,I.cell,I.free,I.gB,I.pin,I.a7,I.len]
theorem SP.j9 (h:SP (X.rK E) pins D f s'):SP X pins D f s':=by
 cases f with
 |next=>obtain ⟨σ',H',I,q⟩:=h;exact #[σ',H',I.j9,q]
 |brk=>obtain ⟨σ',H',I,q⟩:=h;exact #[σ',H',I.j9,q]
 |cont=>obtain ⟨σ',H',I,q⟩:=h;exact #[σ',H',I.j9,q]
 |ret u=>obtain ⟨v,σ',H',I,r,q⟩:=h;exact #[v,σ',H',I.j9,r,q]
theorem uY.FH {st:List Stmt} {t:TS} (h:uY X.FH st t):uY X st t:=λpins s σ H D I hw=>TJ (h pins s σ H D (I.rK _) hw) (λ_ _ q=>q.j9) λ_ _ z=>TD z
end
section
variable {X:Cx} {st:Stmt} {rest:List Stmt} {t u:TS} {e:Expr} {te:TE} {pos:Pos}
noncomputable def FI:TS:=λD σ H=>D.nx σ H
noncomputable def FJ (t u:TS):TS:=λD σ H=>t {D with nx:=u D} σ H
theorem aC:uY X [] FI:=λ_ _ σ H _ I h=>wpAny_execs_nil #[σ,H,I,h]
theorem aa (h1:PS X st t) (h2:uY X rest u):uY X (st::rest) (FJ t u):=by
 intro pins s σ H D I h;refine wpAny_execs_cons (ci (h1 pins s σ H {D with nx:=u D} I h) λf s1 q=>?_);cases f with
 |next=>obtain ⟨σ',H',I',q⟩:=q;exact h2 pins s1 σ' H' D I' q
 |ret v=>exact q
 |brk=>exact q
 |cont=>exact q
theorem ac (h1:PS X st t):uY X [st] t:=by
 intro pins s σ H D I h;refine wpAny_execs_cons (ci (h1 pins s σ H D I h) λf s1 q=>?_);cases f with
 |next=>exact wpAny_execs_nil q
 |ret v=>exact q
 |brk=>exact q
 |cont=>exact q
theorem Inv.quiet (I:Inv X pins σ H s):interactive X.env=false:=by simp [interactive,I.ok.kind]
noncomputable def Dz (te:TE):TS:=λD σ H=>te σ H λ_ H1=>D.nx σ H1
theorem bA (he:PE X e te) (hs:swapsWith e none pos.line X.env=pure false:=by rfl):PS X (.Expr e pos) (Dz te):=by intro pins s σ H D I h;exact wpAny_Expr_any (ci (he pins s σ H _ I h) λv s1 #[x,H1,I1,r1,q1]=>#[σ,H1,I1,q1]) I.quiet hs
noncomputable def Ic (te:TE):TS:=λD σ H=>te σ H D.rt
theorem am (he:PE X e te):PS X (.Return (some e) pos) (Ic te):=by intro pins s σ H D I h;exact wpAny_Return_some (ci (he pins s σ H _ I h) λv s1 #[x,H1,I1,r1,q1]=>#[x,σ,H1,I1,r1,q1])
noncomputable def Nj:TS:=λD _ H=>D.rt .bZ H
noncomputable def KD (c:TT) (t u:TS):TS:=λD σ H=>c σ H λb H1=>if b=true then t D σ H1 else u D σ H1
theorem aL (hc:PT X c tc) (ha:uY X a t) (hb:uY X b u):PS X (.If c a b pos) (KD tc t u):=by
 intro pins s σ H D I h;refine wpAny_If (ci (hc pins s σ H _ I h) λd s1 zq=>?_);obtain ⟨H1,I1,q1⟩:=zq;cases d with
 |true=>exact ha pins s1 σ H1 D I1 q1
 |false=>exact hb pins s1 σ H1 D I1 q1
noncomputable def FK:TS:=λ_ _ _=>False
end
noncomputable abbrev TG:=V->St->Hp->(St->Hp->Prop)->Prop
def PG (X:Cx) (target:Expr) (t:TG):Prop:=
 ∀(pins:List (KE×Obj)) (s:Se) (σ:St) (H:Hp) (v:V) (u:UU) (Q:St->Hp->Prop),Inv X pins σ H s->RelV v u->t v σ H Q->
  wpAny (model X.prog X.w) X.A (assign target X.env u) (λ_ s'=>∃σ' H',Inv X pins σ' H' s'/\Q σ' H') X.xe s
noncomputable abbrev Nk:=V->V->V->Hp->(Hp->Prop)->Prop
def Nl (X:Cx) (t:Nk):Prop:=
 ∀(pins:List (KE×Obj)) (s:Se) (σ:St) (H:Hp) (o i v:V) (ov iv u:UU) (Q:Hp->Prop),Inv X pins σ H s->RelV o ov->RelV i iv->RelV v u->t o i v H Q->
  wpAny (model X.prog X.w) X.A (setItem ov iv u) (λ_ s'=>∃H',Inv X pins σ H' s'/\Q H') X.xe s
noncomputable abbrev Nm:=V->V->Hp->VK->Prop
def P0 (X:Cx) (op:Operator) (t:Nm):Prop:=
 ∀(pins:List (KE×Obj)) (s:Se) (σ:St) (H:Hp) (x y:V) (v u:UU) (Q:VK),Inv X pins σ H s->RelV x v->RelV y u->t x y H Q->
  wpAny (model X.prog X.w) X.A (inplaceOp op v u) (EP X pins σ Q) X.xe s
section
variable {X:Cx} {pos:Pos}
noncomputable def kZ (i:Nat):TG:=λv σ H Q=>Q (σ.set i (some v)) H
theorem bg {i:Nat} (hN:X.N.Nodup) (hi:X.N[i]? =some x) (hx:Loc X.env.scope x) (hf:X.fn x=true\/X.env.scope.names.lookup x=some .local:=by first|exact .inl rfl|exact .inr rfl|assumption):PG X (.Name x pos) (kZ i):=by intro pins s σ H v u Q I r h;exact wpAny_assign_Name (sV I hN hi hx r (λs' I'=>#[_,H,I',h]) hf)
noncomputable def Nn (to ti:TE) (t:Nk):TG:=λv σ H Q=>to σ H λo H1=>ti σ H1 λi H2=>t o i v H2 λH3=>Q σ H3
theorem KF (ho:PE X o to) (hi:PE X i ti) (hs:Nl X t)
 (ha:∀v,assign (.Subscript o i pos) X.env v=(do
  let ov<-holding [v] (eval o X.env)
  let iv<-holding [v,ov] (eval i X.env)
  standAt pos
  holding [v,ov,iv] (setItem ov iv v)
  release [v,ov,iv] []):=by intro _;rfl):PG X (.Subscript o i pos) (Nn to ti t):=by
 intro pins s σ H v u Q I r h;rw [ha];refine Su (wpAny_holding (ci (ho pins s σ H _ I h) λov s1 zq=>?_));obtain ⟨x,H1,I1,r1,q1⟩:=zq;refine Su (wpAny_holding (ci (hi pins s1 σ H1 _ I1 q1) λiv s2 zq=>?_));obtain ⟨y,H2,I2,r2,q2⟩:=zq;refine Su (wpAny_standAt (Su (wpAny_holding (ci (hs pins s2 σ H2 x y v ov iv u _ I2 r1 r2 r q2) λ_ s3 zq=>?_))));obtain ⟨H3,I3,q3⟩:=zq;exact wpAny_release #[σ,H3,I3,q3]
noncomputable def Cb (te:TE) (g:TG):TS:=λD σ H=>te σ H λx H1=>g x σ H1 D.nx
theorem KG (he:PE X e te) (hg:PG X tg g) (hs:swapsWithSole [tg] e pos.line X.env=pure false:=by rfl) (hw:swappedStores [tg] e X.env=pure none:=by rfl)
 (h1:(assignEach [tg] X.env).map (·.2)=[assign tg X.env]:=by rfl):PS X (.Assign [tg] e pos) (Cb te g):=by
 intro pins s σ H D I h;refine wpAny_Assign_stores (ci (he pins s σ H _ I h) λv s1 zq=>?_) hs hw;obtain ⟨x,H1,I1,r1,q1⟩:=zq;rw [h1];exact ci (hg pins s1 σ H1 x v _ I1 r1 q1) λ_ s2 q=>q
theorem KH {i:Nat} (hN:X.N.Nodup) (hi:X.N[i]? =some x) (hx:Loc X.env.scope x) (he:PE X e te) (hs:swapsWith e (some (.Name x pos')) pos.line X.env=pure false:=by rfl) (hf:X.fn x=true\/X.env.scope.names.lookup x=some .local:=by first|exact .inl rfl|exact .inr rfl|assumption):
 PS X (.Assign [.Name x pos'] e pos) (Cb te (kZ i)):=by
 intro pins s σ H D I h;refine wpAny_Assign_Name (ci (he pins s σ H _ I h) λv s1 zq=>?_) hs;obtain ⟨y,H1,I1,r1,q1⟩:=zq;exact sV I1 hN hi hx r1 (λs2 I2=>#[_,H1,I2,q1]) hf
noncomputable def KI (i:Nat) (te:TE) (ti:Nm):TS:=λD σ H=>∃x,σ[i]? =some (some x)/\te σ H λy H1=>ti x y H1 λz H2=>D.nx (σ.set i (some z)) H2
theorem j_ {i:Nat} (hN:X.N.Nodup) (hi:X.N[i]? =some x) (hx:Loc X.env.scope x) (he:PE X e te) (ho:P0 X op ti) (hf:X.fn x=true\/X.env.scope.names.lookup x=some .local:=by first|exact .inl rfl|exact .inr rfl|assumption):
 PS X (.AugAssign (.Name x pos') op e pos) (KI i te ti):=by
 intro pins s σ H D I h;obtain ⟨v,e1,h⟩:=h;obtain ⟨m,hn,hl⟩:=I.loc;have vis:Ib X.env.scope x:=by rcases hx with k|k;exact .inl k;exact .inr (.inl k)
 obtain ⟨u,r,l⟩:=hl i x v hi e1 vis;refine wpAny_AugAssign_Name ?_;have go:wpAny (model X.prog X.w) X.A (eval e X.env) (λw s₂=>wpAny (model X.prog X.w) X.A (inplaceOp op u w) (λr s₃=>wpAny (model X.prog X.w) X.A (storeName X.env x r) (λ_=>SP X pins D .next) X.xe s₃) X.xe s₂) X.xe s:=by refine ci (he pins s σ H _ I h) λw s1 zq=>?_;obtain ⟨y,H1,I1,r1,q1⟩:=zq;refine ci (ho pins s1 σ H1 v y u w _ I1 r r1 q1) λz s2 zq=>?_;obtain ⟨zv,H2,I2,r2,q2⟩:=zq;exact sV I2 hN hi hx r2 (λs3 I3=>#[_,H2,I3,q2]) hf
 rcases l with ⟨hk,hm⟩|⟨hk,c,hc,hcell⟩
 .exact wpAny_loadName_local I.ok.kind hk hn hm go
 .rcases hk with hk|hk
  .exact wpAny_loadName_cell I.ok.kind hk hc hcell go
  .rcases hx with k|k
   .have:X.env.scope.names.lookup x=some .free:=hk;rw [k] at this;cases this
   .have:X.env.scope.names.lookup x=some .free:=hk;rw [k] at this;cases this
noncomputable def Pw (f:Int->Int->Int):Nm:=λx y H Q=>∃i j,x= .int i/\y= .int j/\Q (.int (f i j)) H
theorem nV:P0 X .Add (Pw λi j=>i+j):=by intro pins s σ H x y v u Q I r1 r2 h;obtain ⟨i,j,e1,e2,q⟩:=h;subst e1;subst e2;obtain ⟨t,rfl⟩:=r1;obtain ⟨t',rfl⟩:=r2;exact iadd_int #[.int _,H,I.tok _,#[_,rfl],q]
theorem FL:P0 X .Sub (Pw λi j=>i - j):=by intro pins s σ H x y v u Q I r1 r2 h;obtain ⟨i,j,e1,e2,q⟩:=h;subst e1;subst e2;obtain ⟨t,rfl⟩:=r1;obtain ⟨t',rfl⟩:=r2;exact isub_int #[.int _,H,I.tok _,#[_,rfl],q]
end
section
variable {X:Cx} {pos:Pos}
noncomputable def xN (c:TT) (tb:TS):TS:=λD σ H=>∃W:Nat->St->Hp->Prop,(∃m,W m σ H)/\∀m σ H,W m σ H->
 c σ H λb H1=>if b=true then∃N:St->Hp->Prop,(∀σ' H',N σ' H'->∃m',m'<m/\W m' σ' H')/\tb {D with nx:=N,ct:=N,bk:=D.nx} σ H1 else D.nx σ H1
theorem gC (hp:PassesOwn (model X.prog X.w) X.A X.env X.xe) (hc:PT X c tc) (hb:uY X body tb):PS X (.While c body [] pos) (xN tc tb):=by
 intro pins s σ H D I h;obtain ⟨W,⟨m0,w0⟩,turn⟩:=h;refine wpAny_While (codeAny_whileLoop (λn s'=>∃σ' H',Inv X pins σ' H' s'/\W n σ' H') ?_ m0 #[σ,H,I,w0]);rintro n s1 ⟨σ1,H1,I1,w1⟩;refine Ux hp (ci (hc pins s1 σ1 H1 _ I1 (turn n σ1 H1 w1)) λb s2 zq=>?_);obtain ⟨H2,I2,q2⟩:=zq;cases b with
 |true=>
  obtain ⟨N,hN,q2⟩:=q2;rw [if_pos rfl];refine Ux hp (ci (hb pins s2 σ1 H2 _ I2 q2) λf s3 q3=>?_);cases f with
  |next=>obtain ⟨σ3,H3,I3,n3⟩:=q3;obtain ⟨m',hm,w3⟩:=hN σ3 H3 n3;exact #[m',hm,σ3,H3,I3,w3]
  |cont=>obtain ⟨σ3,H3,I3,n3⟩:=q3;obtain ⟨m',hm,w3⟩:=hN σ3 H3 n3;exact #[m',hm,σ3,H3,I3,w3]
  |brk=>exact q3
  |ret v=>exact q3
 |false=>rw [if_neg SM];exact wpAny_execs_nil #[σ1,H2,I2,q2]
end
structure It where
 go:Nat->Hp->Prop
 JR:Nat->Hp->V->Hp->Prop
 stop:Nat->Hp->Prop
def ke (X:Cx) (pins:List (KE×Obj)) (H:Hp) (b:KE):Prop:=
 H b=none/\b≠X.env.locals/\b∉X.fs/\(b∈X.ex\/X.sr.heap.objs.size<=b)/\(∀x c,X.env.cells.lookup x=some c->c≠b)/\∀p∈X.pn++pins,p.1≠b
theorem Inv.Cc (I:Inv X pins σ H s) (hb:s.heap.objs.size<=b) (hn:H' b=none):ke X pins H' b:=by
 refine #[hn,Nat.ne_of_gt (SS I.lt hb),I.Kx hb,.inr (SA I.sz hb),λx c e z=>?_,λp hp z=>?_]
 .obtain ⟨v,q⟩:=I.cell x c e;exact absurd (SS q.lt (by rw [z];exact hb)) (Tr _)
 .exact absurd (SS (SK (I.pin p hp).1) (by rw [z];exact hb)) (Tr _)
structure Turn (P:SN) (w:S_) (K:UT) (tg:Expr) (J:It) (fp:List KE) (it:KE) (tn:Nat->Ti->Prop):Prop where
 mem:it∈fp
 obj:∀i h,tn i h->∀b∈fp,∃o,h.get? b=some o/\∀v,o.data≠.cell v
 keep:∀i h h',tn i h->(∀b∈fp,∀o,h.get? b=some o->h'.get? b=some o)->tn i h'
 item:∀(X:Cx),X.prog=P->X.w=w->X.K=K->X.calm=true->∀(i:Nat) (pins:List (KE×Obj)) (s:Se) (σ:St) (H:Hp) (E:UU->Se->Prop),Inv X pins σ H s->(∀b∈fp,ke X pins H b)->tn i s.heap->J.go i H->
  wpAny (model P w) X.A (pyNext (.ref it)) (λr s1=>∃u,r=some u/\
   wpAny (model P w) X.A (letOwnedTupleGo tg (.ref it) u) (λ_ s2=>∃x H',Inv X pins σ H' s2/\RelV x u/\J.JR i H x H'/\tn (i+1) s2.heap/\∀b∈fp,H' b=none) E s1) E s
 done:∀(X:Cx),X.prog=P->X.w=w->X.K=K->X.calm=true->∀(i:Nat) (pins:List (KE×Obj)) (s:Se) (σ:St) (H:Hp) (E:UU->Se->Prop),Inv X pins σ H s->(∀b∈fp,ke X pins H b)->tn i s.heap->J.stop i H->
  wpAny (model P w) X.A (pyNext (.ref it)) (λr s1=>r=none/\Inv X pins σ H s1) E s
 self:∀(A:Tl) (i:Nat) (s:Se) (Q:UU->Se->Prop) (E:UU->Se->Prop),tn i s.heap->Q (.ref it) s->wpAny (model P w) A (pyIter (.ref it)) Q E s
noncomputable abbrev TI:=St->Hp->(It->Hp->Prop)->Prop
def P1 (X:Cx) (pins:List (KE×Obj)) (σ:St) (tg:Expr) (R:It->Hp->Prop) (itv:UU) (s2:Se):Prop:=
 ∃(it:KE) (fp:List KE) (tn:Nat->Ti->Prop) (J:It) (H':Hp),itv= .ref it/\Inv X pins σ H' s2/\Turn X.prog X.w X.K tg J fp it tn/\tn 0 s2.heap/\(∀b∈fp,ke X pins H' b)/\R J H'
def PI (X:Cx) (tg iter:Expr) (wi:TI):Prop:=
 ∀(pins:List (KE×Obj)) (s:Se) (σ:St) (H:Hp) (R:It->Hp->Prop),Inv X pins σ H s->wi σ H R->
  wpAny (model X.prog X.w) X.A (eval iter X.env) (λv s1=>wpAny (model X.prog X.w) X.A (pyIter v) (P1 X pins σ tg R) X.xe s1) X.xe s
theorem zZ {E:UU->Se->Prop} {n:String} {Q:Unit->Se->Prop} (ho:s.heap.get? it=some o) (hc:o.cls= .type n) (hd:o.data= .fields vs)
 (hn:["enumerate","zip","dict_itemiterator","dict_reverseitemiterator","odict_iterator","itertools.zip_longest","itertools.pairwise"].contains n=false) (hQ:Q () s):wpAny M A (letOwnedTupleGo tg (.ref it) u) Q E s:=by
 unfold letOwnedTupleGo;cases tg<;>first
  |exact S6 hQ
  |(cases u<;>first
   |exact S6 hQ
   |(refine Su (wpAny_load ho ?_)
     rw [hc,hd];show wpAny M A (if (["enumerate","zip","dict_itemiterator","dict_reverseitemiterator","odict_iterator","itertools.zip_longest","itertools.pairwise"].contains n&&vs[0]? ==some (rawInt _))=true then _ else _) Q E s;rw [if_neg (by intro h;rw [hn,Bool.false_and] at h;cases h)];exact S6 hQ))
noncomputable def Ie (K:UT) (a:KE):It:=
 #[λi H=>∃xs x,cB K H a xs/\xs[i]? =some x,λi H x H'=>H'=H/\∀xs,cB K H a xs->xs[i]? =some x,λi H=>∃xs,cB K H a xs/\xs.length<=i]
noncomputable def JS (K:UT) (a:KE):It:=
 #[λi H=>∃xs x,ij K H a xs/\xs[i]? =some x,λi H x H'=>H'=H/\∀xs,ij K H a xs->xs[i]? =some x,λi H=>∃xs,ij K H a xs/\xs.length<=i]
noncomputable def FM (lo:Int) (n:Nat):It:=#[λi _=>i<n,λi H x H'=>H'=H/\x= .int (lo+i),λi _=>n<=i]
theorem Eu {P:SN} {w:S_} {K:UT} {tg:Expr} (a it:KE):Turn P w K tg (Ie K a) [it] it (λi h=>h.IsListIter it a i) where
 mem:=by simp
 obj:=λi h st b hb=>by
  have e:b=it:=by simpa using hb
  subst e;obtain ⟨o,e,c,d⟩:=st;exact #[o,e,λv z=>by rw [d] at z;cases z]
 keep:=λi h h' st k=>st.at λo e=>k it (by simp) o e
 item:=by intro X hP hw hK hc i pins s σ H E I hf st hg;subst hP hw hK;obtain ⟨xs,x,hq,hx⟩:=hg;obtain ⟨its,rv,p,hz⟩:=I.list hq;obtain ⟨u,hu,ru⟩:=rv.get hx;obtain ⟨f0,f1,f2,f3,f4,f5⟩:=hf it (by simp);refine wpAny_pyNext_list_item st p.isList (x:=u) (by simpa using hu) λh' st' sb=>?_;have I1:Inv X pins σ H {s with heap:=h'}:=I.turned (t':=s.toks) (λb o hb e=>(sb.2 b hb).trans e) f0 f1 f3 f4 f5;obtain ⟨o,e,c,d⟩:=id st';exact #[u,rfl,zZ (s:={s with heap:=h'}) e c d (by decide) #[x,H,I1,ru,#[rfl,λys hy=>by rw [I.FG hy hq];exact hx],st',λb hb=>(hf b hb).1]]
 done:=by intro X hP hw hK hc i pins s σ H E I hf st hg;subst hP hw hK;obtain ⟨xs,hq,hx⟩:=hg;obtain ⟨its,rv,p,hz⟩:=I.list hq;obtain ⟨f0,f1,f2,f3,f4,f5⟩:=hf it (by simp);have hl:=rv.length;exact wpAny_pyNext_list_end (I.ok.hd hc) st p.isList (by simp;omega) λh' eb=>#[rfl,I.turned (t':=s.toks) (λb o hb e=>eb b o hb e) f0 f1 f3 f4 f5]
 self:=λ_ _ _ _ _ st h=>wpAny_pyIter_listiter st h
theorem Ce {P:SN} {w:S_} {K:UT} {tg:Expr} (a it:KE):Turn P w K tg (JS K a) [it] it (λi h=>h.IsTupleIter it a i) where
 mem:=by simp
 obj:=λi h st b hb=>by
  have e:b=it:=by simpa using hb
  subst e;obtain ⟨o,e,c,d⟩:=st;exact #[o,e,λv z=>by rw [d] at z;cases z]
 keep:=λi h h' st k=>st.at λo e=>k it (by simp) o e
 item:=by intro X hP hw hK hc i pins s σ H E I hf st hg;subst hP hw hK;obtain ⟨xs,x,hq,hx⟩:=hg;obtain ⟨its,rv,p,hz⟩:=I.tuple hq;obtain ⟨u,hu,ru⟩:=rv.get hx;obtain ⟨f0,f1,f2,f3,f4,f5⟩:=hf it (by simp);refine wpAny_pyNext_tuple_item st (show s.heap.IsTuple a its.toArray from p) (x:=u) (by simpa using hu) λh' st' sb=>?_;have I1:Inv X pins σ H {s with heap:=h'}:=I.turned (t':=s.toks) (λb o hb e=>(sb.2 b hb).trans e) f0 f1 f3 f4 f5;obtain ⟨o,e,c,d⟩:=id st';exact #[u,rfl,zZ (s:={s with heap:=h'}) e c d (by decide) #[x,H,I1,ru,#[rfl,λys hy=>by rw [I.Et hy hq];exact hx],st',λb hb=>(hf b hb).1]]
 done:=by intro X hP hw hK hc i pins s σ H E I hf st hg;subst hP hw hK;obtain ⟨xs,hq,hx⟩:=hg;obtain ⟨its,rv,p,hz⟩:=I.tuple hq;obtain ⟨f0,f1,f2,f3,f4,f5⟩:=hf it (by simp);have hl:=rv.length;exact wpAny_pyNext_tuple_end (I.ok.hd hc) st (show s.heap.IsTuple a its.toArray from p) (by simp;omega) λh' eb=>#[rfl,I.turned (t':=s.toks) (λb o hb e=>eb b o hb e) f0 f1 f3 f4 f5]
 self:=λ_ _ _ _ _ st h=>wpAny_pyIter_tupleiter st h
theorem Cf {P:SN} {w:S_} {K:UT} {tg:Expr} (it:KE) (lo:Int) (n:Nat):Turn P w K tg (FM lo n) [it] it (λi h=>IsRangeIter h it (lo+(i:Nat)*1) ((n:Int)-(i:Nat)) 1) where
 mem:=by simp
 obj:=λi h st b hb=>by
  have e:b=it:=by simpa using hb
  subst e;exact #[_,st,λv z=>by have z':Data.fields _=Data.cell v:=z;cases z']
 keep:=λi h h' st k=>k it (by simp) _ st
 item:=by intro X hP hw hK hc i pins s σ H E I hf st hg;subst hP hw hK;obtain ⟨f0,f1,f2,f3,f4,f5⟩:=hf it (by simp);have W:=Walks.range (prog:=X.prog) (w:=X.w) (I.ok.hd hc) it lo 1 n;refine W.item i s _ _ hg st λv h' tk hv st' kk=>?_;obtain ⟨t,rfl⟩:=hv;have I1:Inv X pins σ H {s with heap:=h',toks:=tk}:=I.turned (λb o hb e=>kk b o (by simpa using hb) e) f0 f1 f3 f4 f5;refine #[_,rfl,zZ (s:={s with heap:=h',toks:=tk}) (n:="range_iterator") st' rfl rfl (by decide) #[.int (lo+i),H,I1,#[t,?_],#[rfl,rfl],st',λb hb=>(hf b hb).1]];rw [Int.mul_one]
 done:=by intro X hP hw hK hc i pins s σ H E I hf st hg;subst hP hw hK;obtain ⟨f0,f1,f2,f3,f4,f5⟩:=hf it (by simp);exact wpAny_pyNext_range_end (I.ok.hd hc) st (by have:n<=i:=hg;omega) λh' eb=>#[rfl,I.turned (t':=s.toks) (λb o hb e=>eb b o hb e) f0 f1 f3 f4 f5]
 self:=λ_ _ _ _ _ st h=>wpAny_pyIter_rangeiter st h
end L2
namespace L2
open PySem PySem.Spec PyProof.Rows
section
variable {X:Cx} {tg:Expr}
noncomputable def FN (K:UT) (tl:TE):TI:=λσ H R=>tl σ H λx H1=>∃a,x= .ref a/\(∃xs,cB K H1 a xs)/\R (Ie K a) H1
noncomputable def KJ (K:UT) (tl:TE):TI:=λσ H R=>tl σ H λx H1=>∃a,x= .ref a/\(∃xs,ij K H1 a xs)/\R (JS K a) H1
theorem cb {l:Expr} {tl:TE} (hl:PE X l tl):PI X tg l (FN X.K tl):=by
 intro pins s σ H R I h;refine ci (hl pins s σ H _ I h) λv s1 zq=>?_;obtain ⟨x,H1,I1,r1,q1⟩:=zq;obtain ⟨a,e,⟨xs,hq⟩,q⟩:=q1;subst e;cases r1;obtain ⟨its,rv,p,hz⟩:=I1.list hq;refine wpAny_pyIter_list p.isList ?_;refine #[s1.heap.objs.size,[s1.heap.objs.size],_,_,H1,rfl,I1.kept (t':=s1.toks) λb o e=>Sn _ e,Eu a _,#[_,SL _ rfl,rfl,rfl],λb hb=>?_,q];have e:b=s1.heap.objs.size:=by simpa using hb
 subst e;exact I1.Cc (Sf _) (I1.a7.fresh (Sf _))
theorem FP {l:Expr} {tl:TE} (hl:PE X l tl):PI X tg l (KJ X.K tl):=by
 intro pins s σ H R I h;refine ci (hl pins s σ H _ I h) λv s1 zq=>?_;obtain ⟨x,H1,I1,r1,q1⟩:=zq;obtain ⟨a,e,⟨xs,hq⟩,q⟩:=q1;subst e;cases r1;obtain ⟨its,rv,p,hz⟩:=I1.tuple hq;refine wpAny_pyIter_tuple (show s1.heap.IsTuple a its.toArray from p) ?_;refine #[s1.heap.objs.size,[s1.heap.objs.size],_,_,H1,rfl,I1.kept (t':=s1.toks) λb o e=>Sn _ e,Ce a _,#[_,SL _ rfl,rfl,rfl],λb hb=>?_,q];have e:b=s1.heap.objs.size:=by simpa using hb
 subst e;exact I1.Cc (Sf _) (I1.a7.fresh (Sf _))
theorem z1 {R:It->Hp->Prop} {E:UU->Se->Prop} {lo hi:Int} {tk:Nat} (I:Inv X pins σ H s) (h1:-(2^62)<=lo) (h2:lo<2^62) (h3:-(2^62)<=hi) (h4:hi<2^62)
 (q:R (FM lo (hi - lo).toNat) H):wpAny (model X.prog X.w) X.A (pyIter (.ref s.heap.objs.size)) (P1 X pins σ tg R) E {s with heap:=s.heap.push {cls:=.type "range",data:=.fields [.int lo t,.int hi u,.int 1 v].toArray},toks:=tk}:=by
 refine wpAny_pyIter_range (IsRange.new ..) (small_one h1 h2 h3 h4) ?_;have I1:Inv X pins σ H {s with heap:=s.heap.push {cls:=.type "range",data:=.fields [.int lo t,.int hi u,.int 1 v].toArray},toks:=tk}:=I.kept λb o e=>Sn _ e;refine #[(s.heap.push {cls:=.type "range",data:=.fields [.int lo t,.int hi u,.int 1 v].toArray}).objs.size,[(s.heap.push {cls:=.type "range",data:=.fields [.int lo t,.int hi u,.int 1 v].toArray}).objs.size],_,_,H,rfl,
  I1.kept (t':=tk) λb o e=>Sn _ e,Cf _ lo (hi - lo).toNat,?_,λb hb=>?_,q]
 .have e1:lo+((0:Nat):Int)*1=lo:=by simp
  have e2:(((hi - lo).toNat:Nat):Int)-((0:Nat):Int)=UA lo hi 1:=by rw [rangeSize_one];split<;>omega
  show IsRangeIter _ _ (lo+((0:Nat):Int)*1) ((((hi - lo).toNat:Nat):Int)-((0:Nat):Int)) 1;rw [e1,e2];exact SL _ rfl
 .have e:b=(s.heap.push {cls:=.type "range",data:=.fields [.int lo t,.int hi u,.int 1 v].toArray}).objs.size:=by simpa using hb
  subst e;exact I1.Cc (Sf _) (I1.a7.fresh (Sf _))
noncomputable def FQ (ta:TA):TI:=λσ H R=>ta σ H λvs H1=>∃j:Int,vs=[.int j]/\ -(2^62)<=j/\j<2^62/\R (FM 0 j.toNat) H1
noncomputable def FR (ta:TA):TI:=λσ H R=>ta σ H λvs H1=>∃i j:Int,vs=[.int i,.int j]/\(-(2^62)<=i/\i<2^62/\ -(2^62)<=j/\j<2^62)/\R (FM i (j - i).toNat) H1
theorem wu (hg:Gl X "range") (hm:X.mg "range" =none) (ha:PA X [a] ta) (hs:starEach [a] X.env=[(false,eval a X.env)]:=by rfl):PI X tg (.Call (.Name "range" p) [a] [] pos) (FQ ta):=by
 intro pins s σ H R I h;refine Call_ (qb I hg hm boot_range (Ul (ci (ha pos pins s σ H _ I h) λus s1 zq=>?_) hs rfl));obtain ⟨vs,H1,I1,r1,q1⟩:=zq;obtain ⟨j,e,q1,q2,q⟩:=q1;subst e;cases r1 with
 |cons r rr=>cases rr;obtain ⟨t,rfl⟩:=r;exact call_range_1 (z1 I1 (by omega) (by omega) q1 q2 (by simpa using q))
theorem mB (hg:Gl X "range") (hm:X.mg "range" =none) (ha:PA X [a,b] ta) (hs:starEach [a,b] X.env=[(false,eval a X.env),(false,eval b X.env)]:=by rfl) (hs2:starEach [b] X.env=[(false,eval b X.env)]:=by rfl):
 PI X tg (.Call (.Name "range" p) [a,b] [] pos) (FR ta):=by
 intro pins s σ H R I h;refine Call_ (qb I hg hm boot_range (Ul (ci (ha pos pins s σ H _ I h) λus s1 zq=>?_) (by rw [hs,hs2]) (by rw [hs2];rfl)));obtain ⟨vs,H1,I1,r1,q1⟩:=zq;obtain ⟨i,j,e,⟨q1,q2,q3,q4⟩,q⟩:=q1;subst e;cases r1 with
 |cons r rr=>
  cases rr with
  |cons r' rr=>cases rr;obtain ⟨t,rfl⟩:=r;obtain ⟨t',rfl⟩:=r';exact call_range_2 (z1 I1 q1 q2 q3 q4 q)
noncomputable def KM (wi:TI) (g:TG) (tb:TS):TS:=λD σ H=>wi σ H λJ H1=>∃W:Nat->Nat->St->Hp->Prop,(∃m,W 0 m σ H1)/\∀i m σ H,W i m σ H->
 (J.stop i H/\D.nx σ H)\/(J.go i H/\∃N:St->Hp->Prop,(∀σ' H',N σ' H'->∃m',m'<m/\W (i+1) m' σ' H')/\∀x H',J.JR i H x H'->g x σ H' λσ2 H2=>tb {D with nx:=N,ct:=N,bk:=D.nx} σ2 H2)
noncomputable def sY (fp:List KE) (h:Ti):List (KE×Obj):=fp.filterMap λb=>(h.get? b).map λo=>(b,o)
theorem nW (hb:b∈fp) (e:h.get? b=some o):(b,o)∈sY fp h:=(Ua).mpr #[b,hb,by rw [e];rfl]
theorem Ev (hp:p∈sY fp h):p.1∈fp/\h.get? p.1=some p.2:=by
 obtain ⟨b,hb,e⟩:=(Ua).mp hp;cases q:h.get? b with
 |none=>rw [q] at e;cases e
 |some o=>rw [q] at e;have e':(b,o)=p:=Sd e;subst e';exact #[hb,q]
theorem Inv.pinned (I:Inv X pins σ H s) (hf:∀b∈fp,ke X pins H b) (ho:∀b∈fp,∃o,s.heap.get? b=some o/\∀v,o.data≠.cell v):Inv X (pins++sY fp s.heap) σ H s:=
 I.xH λp hp=>((SU).mp hp).elim (λz=>I.pin p (Tz _ z)) λz=>by obtain ⟨hb,e⟩:=Ev z;obtain ⟨f0,f1,f2,_⟩:=hf p.1 hb;obtain ⟨o,e',d⟩:=ho p.1 hb;rw [e] at e';cases e';exact #[e,f0,f1,f2,d]
theorem Inv.lx (I:Inv X (pins++pl) σ H s):Inv X pins σ H s:=I.xH λp hp=>I.pin p (Tz _ (List.mem_append_left _ hp))
theorem cp (hp:PassesOwn (model X.prog X.w) X.A X.env X.xe) (hc:X.calm=true) (hi:PI X tg iter wi) (hg:PG X tg g) (hb:uY X body tb)
 (hs:∀x,foldedSetIterable iter X.env x=pure x:=by intro _;rfl):PS X (.For tg iter body [] pos) (KM wi g tb):=by
 intro pins s σ H D I h;refine wpAny_For (ci (hi pins s σ H _ I h) λv s1 h1=>ci h1 λitv s2 h2=>?_) hs;obtain ⟨it,fp,tn,J,H2,e,I2,T,st2,f2,W,⟨m0,w0⟩,turn⟩:=h2;subst e;have stat:∀{H':Hp},(∀b∈fp,H' b=none)->∀b∈fp,ke X pins H' b:=λhn b hb=>#[hn b hb,(f2 b hb).2];refine codeAny_forLoop_any (λn s'=>∃i σ' H',Inv X pins σ' H' s'/\tn i s'.heap/\(∀b∈fp,H' b=none)/\W i n σ' H') ?_ m0 #[0,σ,H2,I2,st2,λb hb=>(f2 b hb).1,w0];rintro n s3 ⟨i,σ3,H3,I3,st3,fr3,w3⟩;rcases turn i n σ3 H3 w3 with ⟨stop,qn⟩|⟨go,N,hN,step⟩
 .refine Ux hp (ci (T.done X rfl rfl rfl hc i pins s3 σ3 H3 X.xe I3 (stat fr3) st3 stop) λr s4 zq=>?_);obtain ⟨hr,I4⟩:=zq;subst hr;exact wpAny_execs_nil #[σ3,H3,I4,qn]
 .refine Ux hp (ci (T.item X rfl rfl rfl hc i pins s3 σ3 H3 X.xe I3 (stat fr3) st3 go) λr s4 zq=>?_);obtain ⟨u,hr,h4⟩:=zq;subst hr;refine Ux hp (ci h4 λ_ s5 zq=>?_);obtain ⟨x,H5,I5,r5,y5,st5,fr5⟩:=zq;have I5':=I5.pinned (stat fr5) (T.obj _ _ st5);refine Ux hp (ci (hg _ s5 σ3 H5 x u _ I5' r5 (step x H5 y5)) λ_ s6 zq=>?_);obtain ⟨σ6,H6,I6,q6⟩:=zq;refine Ux hp (ci (hb _ s6 σ6 H6 _ I6 q6) λf s7 q7=>?_);have again:∀{σ7:St} {H7:Hp},Inv X (pins++sY fp s5.heap) σ7 H7 s7->N σ7 H7->∃m,m<n/\∃i σ' H',Inv X pins σ' H' s7/\tn i s7.heap/\(∀b∈fp,H' b=none)/\W i m σ' H':=λ{σ7 H7} I7 n7=>by obtain ⟨m',hm,w7⟩:=hN σ7 H7 n7;refine #[m',hm,i+1,σ7,H7,I7.lx,T.keep _ _ _ st5 λb hb o e=>(I7.pin (b,o) (Tz _ (Tz _ (nW hb e)))).1,λb hb=>?_,w7];obtain ⟨o,e,d⟩:=T.obj _ _ st5 b hb;exact (I7.pin (b,o) (Tz _ (Tz _ (nW hb e)))).2.1
  cases f with
  |next=>obtain ⟨σ7,H7,I7,n7⟩:=q7;exact again I7 n7
  |cont=>obtain ⟨σ7,H7,I7,n7⟩:=q7;exact again I7 n7
  |brk=>obtain ⟨σ7,H7,I7,q7⟩:=q7;exact #[σ7,H7,I7.lx,q7]
  |ret v=>obtain ⟨x7,σ7,H7,I7,r7,q7⟩:=q7;exact #[x7,σ7,H7,I7.lx,r7,q7]
end
theorem FS {K:UT} {a:KE} {xs:List V} {g:TG} {tb:TS} {D:Ends} {σ:St} {H:Hp} (Pv:Nat->St->Hp->Prop) (h0:Pv 0 σ H) (hl:∀i σ H,i<=xs.length->Pv i σ H->cB K H a xs)
 (hs:∀i x σ H,xs[i]? =some x->Pv i σ H->g x σ H λσ2 H2=>tb {D with nx:=Pv (i+1),ct:=Pv (i+1),bk:=D.nx} σ2 H2) (hd:∀σ H,Pv xs.length σ H->D.nx σ H):
 ∃W:Nat->Nat->St->Hp->Prop,(∃m,W 0 m σ H)/\∀i m σ H,W i m σ H->
  ((Ie K a).stop i H/\D.nx σ H)\/((Ie K a).go i H/\∃N:St->Hp->Prop,(∀σ' H',N σ' H'->∃m',m'<m/\W (i+1) m' σ' H')/\∀x H',(Ie K a).JR i H x H'->g x σ H' λσ2 H2=>tb {D with nx:=N,ct:=N,bk:=D.nx} σ2 H2):=by
 refine #[λi m σ H=>m=xs.length - i/\i<=xs.length/\Pv i σ H,#[xs.length,by simp,SW _,h0],?_];rintro i m σ H ⟨rfl,hi,p⟩;have q:=hl i σ H hi p;by_cases hlt:i<xs.length
 .refine .inr #[#[xs,xs[i],q,by simp [hlt]],Pv (i+1),λσ' H' p'=>#[xs.length -(i+1),by omega,rfl,hlt,p'],λx H' y=>?_];obtain ⟨e,y⟩:=y;subst e;exact hs i x σ _ (y xs q) p
 .have e:i=xs.length:=by omega
  subst e;exact .inl #[#[xs,q,Sf _],hd σ H p]
theorem Ig {K:UT} {a:KE} {xs:List V} {g:TG} {tb:TS} {D:Ends} {σ:St} {H:Hp} (Pv:Nat->St->Hp->Prop) (h0:Pv 0 σ H) (hl:∀i σ H,i<=xs.length->Pv i σ H->ij K H a xs)
 (hs:∀i x σ H,xs[i]? =some x->Pv i σ H->g x σ H λσ2 H2=>tb {D with nx:=Pv (i+1),ct:=Pv (i+1),bk:=D.nx} σ2 H2) (hd:∀σ H,Pv xs.length σ H->D.nx σ H):
 ∃W:Nat->Nat->St->Hp->Prop,(∃m,W 0 m σ H)/\∀i m σ H,W i m σ H->
  ((JS K a).stop i H/\D.nx σ H)\/((JS K a).go i H/\∃N:St->Hp->Prop,(∀σ' H',N σ' H'->∃m',m'<m/\W (i+1) m' σ' H')/\∀x H',(JS K a).JR i H x H'->g x σ H' λσ2 H2=>tb {D with nx:=N,ct:=N,bk:=D.nx} σ2 H2):=by
 refine #[λi m σ H=>m=xs.length - i/\i<=xs.length/\Pv i σ H,#[xs.length,by simp,SW _,h0],?_];rintro i m σ H ⟨rfl,hi,p⟩;have q:=hl i σ H hi p;by_cases hlt:i<xs.length
 .refine .inr #[#[xs,xs[i],q,by simp [hlt]],Pv (i+1),λσ' H' p'=>#[xs.length -(i+1),by omega,rfl,hlt,p'],λx H' y=>?_];obtain ⟨e,y⟩:=y;subst e;exact hs i x σ _ (y xs q) p
 .have e:i=xs.length:=by omega
  subst e;exact .inl #[#[xs,q,Sf _],hd σ H p]
theorem Ew {lo:Int} {n:Nat} {g:TG} {tb:TS} {D:Ends} {σ:St} {H:Hp} (Pv:Nat->St->Hp->Prop) (h0:Pv 0 σ H)
 (hs:∀i σ H,i<n->Pv i σ H->g (.int (lo+i)) σ H λσ2 H2=>tb {D with nx:=Pv (i+1),ct:=Pv (i+1),bk:=D.nx} σ2 H2) (hd:∀σ H,Pv n σ H->D.nx σ H):
 ∃W:Nat->Nat->St->Hp->Prop,(∃m,W 0 m σ H)/\∀i m σ H,W i m σ H->
  ((FM lo n).stop i H/\D.nx σ H)\/((FM lo n).go i H/\∃N:St->Hp->Prop,(∀σ' H',N σ' H'->∃m',m'<m/\W (i+1) m' σ' H')/\∀x H',(FM lo n).JR i H x H'->g x σ H' λσ2 H2=>tb {D with nx:=N,ct:=N,bk:=D.nx} σ2 H2):=by
 refine #[λi m σ H=>m=n - i/\i<=n/\Pv i σ H,#[n,by simp,SW _,h0],?_];rintro i m σ H ⟨rfl,hi,p⟩;by_cases hlt:i<n
 .refine .inr #[hlt,Pv (i+1),λσ' H' p'=>#[n -(i+1),by omega,rfl,hlt,p'],λx H' y=>?_];obtain ⟨e,y⟩:=y;subst e y;exact hs i σ _ hlt p
 .have e:i=n:=by omega
  subst e;exact .inl #[Sf _,hd σ H p]
end L2
namespace L2
open PySem PySem.Spec PyProof.Rows
noncomputable abbrev R2:=V->V->Hp->VK->Prop
def oI (X:Cx) (f:UU->UU->Sem UU) (r:R2):Prop:=
 ∀(pins:List (KE×Obj)) (s:Se) (σ:St) (H:Hp) (x y:V) (v u:UU) (Q:VK),Inv X pins σ H s->RelV x v->RelV y u->r x y H Q->
  wpAny (model X.prog X.w) X.A (f v u) (EP X pins σ Q) X.xe s
def P2 (X:Cx) (f:UU->Sem UU) (r:V->Hp->VK->Prop):Prop:=
 ∀(pins:List (KE×Obj)) (s:Se) (σ:St) (H:Hp) (x:V) (v:UU) (Q:VK),Inv X pins σ H s->RelV x v->r x H Q->
  wpAny (model X.prog X.w) X.A (f v) (EP X pins σ Q) X.xe s
def eR (X:Cx) (f:UU) (r:List V->Hp->VK->Prop):Prop:=
 ∀(pins:List (KE×Obj)) (s:Se) (σ:St) (H:Hp) (xs:List V) (us:List UU) (Q:VK),Inv X pins σ H s->Vals xs us->r xs H Q->
  wpAny (model X.prog X.w) X.A (call f us) (EP X pins σ Q) X.xe s
noncomputable def Ih (r:R2) (ta tb:TE):TE:=λσ H Q=>ta σ H λx H1=>tb σ H1 λy H2=>r x y H2 Q
noncomputable def Px (r:V->Hp->VK->Prop) (ta:TE):TE:=λσ H Q=>ta σ H λx H1=>r x H1 Q
noncomputable def rI (C:Int->Int->Prop) (g:Int->Int->V):R2:=λx y H Q=>∃i j,x= .int i/\y= .int j/\C i j/\Q (g i j) H
noncomputable def HQ (g:Int->Int->V):R2:=λx y H Q=>∃i j,x= .int i/\y= .int j/\Q (g i j) H
noncomputable def rU (g:Int->V):V->Hp->VK->Prop:=λx H Q=>∃i,x= .int i/\Q (g i) H
section
variable {X:Cx} {a b c:Expr} {ta tb tc:TE} {pos:Pos}
theorem KN (ha:PE X a ta) (hb:PE X b tb) {pins:List (KE×Obj)} {s:Se} {σ:St} {H:Hp} {R:V->V->Hp->Prop} (I:Inv X pins σ H s)
 (h:ta σ H λx H1=>tb σ H1 λy H2=>R x y H2) {Q:UU->Se->Prop} {f:UU->UU->Sem UU}
 (hf:∀v u s2 x y H2,Inv X pins σ H2 s2->RelV x v->RelV y u->R x y H2->wpAny (model X.prog X.w) X.A (f v u) Q X.xe s2):
 wpAny (model X.prog X.w) X.A (eval a X.env) (λv s₁=>wpAny (model X.prog X.w) X.A (eval b X.env) (λu s₂=>wpAny (model X.prog X.w) X.A (f v u) Q X.xe s₂) X.xe s₁) X.xe s:=by
 refine ci (ha pins s σ H _ I h) λv s1 zq=>?_;obtain ⟨x,H1,I1,r1,q1⟩:=zq;refine ci (hb pins s1 σ H1 _ I1 q1) λu s2 zq=>?_;obtain ⟨y,H2,I2,r2,q2⟩:=zq;exact hf v u s2 x y H2 I2 r1 r2 q2
theorem az (ho:oI X (binaryOp op) r) (ha:PE X a ta) (hb:PE X b tb):PE X (.BinOp a op b pos) (Ih r ta tb):=by intro pins s σ H Q I h;exact wpAny_BinOp (KN ha hb I h λv u s2 x y H2 I2 rx ry q=>ho pins s2 σ H2 x y v u Q I2 rx ry q)
theorem k6 {r:V->Hp->VK->Prop} (ho:P2 X (unaryOp op) r) (ha:PE X a ta):PE X (.UnaryOp op a pos) (Px r ta):=by intro pins s σ H Q I h;exact UnaryOp_ (ci (ha pins s σ H _ I h) λv s1 #[x,H1,I1,r1,q1]=>ho pins s1 σ H1 x v Q I1 r1 q1)
theorem P3 {C:Int->Int->Prop} {g:Int->Int->Int}
 (rule:∀(i j:Int) (t u:Tok) (s:Se) (Q:UU->Se->Prop) (E:UU->Se->Prop),C i j->Q (.int (g i j) s.toks) {s with toks:=s.toks+1}->wpAny (model X.prog X.w) X.A (f (.int i t) (.int j u)) Q E s):
 oI X f (rI C λi j=>.int (g i j)):=by
 intro pins s σ H x y v u Q I rx ry h;obtain ⟨i,j,rfl,rfl,hc,q⟩:=h;obtain ⟨t,rfl⟩:=rx;obtain ⟨t',rfl⟩:=ry;exact rule i j t t' s _ _ hc #[.int (g i j),H,I.tok _,#[_,rfl],q]
theorem No {g:Int->Int->Int}
 (rule:∀(i j:Int) (t u:Tok) (s:Se) (Q:UU->Se->Prop) (E:UU->Se->Prop),Q (.int (g i j) s.toks) {s with toks:=s.toks+1}->wpAny (model X.prog X.w) X.A (f (.int i t) (.int j u)) Q E s):
 oI X f (HQ λi j=>.int (g i j)):=by
 intro pins s σ H x y v u Q I rx ry h;obtain ⟨i,j,rfl,rfl,q⟩:=h;obtain ⟨t,rfl⟩:=rx;obtain ⟨t',rfl⟩:=ry;exact rule i j t t' s _ _ #[.int (g i j),H,I.tok _,#[_,rfl],q]
theorem Ii {g:Int->Int->Bool}
 (rule:∀(i j:Int) (t u:Tok) (s:Se) (Q:UU->Se->Prop) (E:UU->Se->Prop),Q (.bool (g i j)) s->wpAny (model X.prog X.w) X.A (f (.int i t) (.int j u)) Q E s):
 oI X f (HQ λi j=>.bl (g i j)):=by
 intro pins s σ H x y v u Q I rx ry h;obtain ⟨i,j,rfl,rfl,q⟩:=h;obtain ⟨t,rfl⟩:=rx;obtain ⟨t',rfl⟩:=ry;exact rule i j t t' s _ _ #[.bl (g i j),H,I,rfl,q]
def Np (i j:Int):Prop:=0<j/\j<1073741824
def FT (i j:Int):Prop:=(-(2^64)<i/\i<2^64)\/(-(2^64)<j/\j<2^64)
theorem FT.ok {i j:Int} (h:FT i j):IntMulOk i j:=by
 rcases h with ⟨h1,h2⟩|⟨h1,h2⟩
 .exact .of_left (intBits_le_64 h1 h2)
 .exact .of_right (intBits_le_64 h1 h2)
theorem aP:oI X (binaryOp .Add) (HQ λi j=>.int (i+j)):=No λ_ _ _ _ _ _ _ q=>add_int q
theorem cq:oI X (binaryOp .Sub) (HQ λi j=>.int (i - j)):=No λ_ _ _ _ _ _ _ q=>sub_int q
theorem ip:oI X (binaryOp .Mult) (rI FT λi j=>.int (i*j)):=P3 λ_ _ _ _ _ _ _ hc q=>mul_int q hc.ok
theorem eI:oI X (binaryOp .FloorDiv) (rI Np λi j=>.int (i/j)):=P3 λi j _ _ _ _ _ hc q=>by have h1:(0:Int)<j:=hc.1;have h2:j<1073741824:=hc.2;exact floordiv_int (by omega) (by rw [Int.fdiv_eq_ediv_of_nonneg i (by omega)];exact q) (.inl (PyProof.noPylong_small (by omega)))
theorem fM:oI X (binaryOp .Mod) (rI (λ_ j=>0<j) λi j=>.int (i%j)):=P3 λi j _ _ _ _ _ hc q=>by have h1:(0:Int)<j:=hc;exact mod_int' (by omega) (by rw [Int.fmod_eq_emod_of_nonneg i (by omega)];exact q)
theorem RO {g:Int->Int}
 (rule:∀(i:Int) (t:Tok) (s:Se) (Q:UU->Se->Prop) (E:UU->Se->Prop),Q (.int (g i) s.toks) {s with toks:=s.toks+1}->wpAny (model X.prog X.w) X.A (f (.int i t)) Q E s):
 P2 X f (rU λi=>.int (g i)):=by
 intro pins s σ H x v Q I rx h;obtain ⟨i,rfl,q⟩:=h;obtain ⟨t,rfl⟩:=rx;exact rule i t s _ _ #[.int (g i),H,I.tok _,#[_,rfl],q]
theorem gP:P2 X (unaryOp .USub) (rU λi=>.int (-i)):=RO λ_ _ _ _ _ q=>neg_int q
end
noncomputable def Ij:V->V->Bool
 | .bZ,.bZ=>true| .bZ,.int _=>true| .int _,.bZ=>true| .bZ,.bl _=>true| .bl _,.bZ=>true| .bZ,.str _=>true| .str _,.bZ=>true
 | .int _,.int _=>true| .bl _,.bl _=>true| .str _,.str _=>true| .BL _,.BL _=>true
 | .int _,.str _=>true| .str _,.int _=>true| .bl _,.str _=>true| .str _,.bl _=>true
 |_,_=>false
noncomputable def Py:R2:=λx y H Q=>Ij x y=true/\Q (.bl (decide (x=y))) H
noncomputable def M6:R2:=λx y H Q=>Ij x y=true/\Q (.bl (!decide (x=y))) H
theorem DA {i j:Int}:decide (V.int i=V.int j)=(i==j):=by rw [TV];simp
theorem FU {i j:Bool}:decide (V.bl i=V.bl j)=(i==j):=by rw [TV];simp
theorem DB:decide (V.str i=V.str j)=(i==j):=by rw [TV];simp
theorem DC:decide (V.BL i=V.BL j)=(i.toList==j.toList):=by rw [TV];cases i;cases j;simp
section
variable {X:Cx} {a b c:Expr} {ta tb tc:TE} {pos:Pos}
theorem bF {k k':Bool} (I:Inv X pins σ H s) (q:Q (.bl k) H) (e:k=k'):EP X pins σ Q (.bool k') s:=by subst e;exact #[.bl k,H,I,rfl,q]
theorem dF:oI X (compareOp .Eq) Py:=by
 intro pins s σ H x y v u Q I rx ry h;obtain ⟨hs,q⟩:=h;cases x with
 |bZ=>
  cases rx;cases y with
  |bZ=>cases ry;exact PySem.EqNone.eq_none_none (bF I q (by simp))
  |bl j=>cases ry;exact PySem.EqNone.eq_none_bool (bF I q (by simp))
  |int j=>obtain ⟨t',rfl⟩:=ry;exact PySem.EqNone.eq_none_int (bF I q (by simp))
  |str j=>obtain ⟨t',rfl⟩:=ry;exact PySem.EqNone.eq_none_str (bF I q (by simp))
  |_=>exact absurd (show false=true from hs) SM
 |bl i=>
  cases rx;cases y with
  |bZ=>cases ry;exact PySem.EqNone.eq_bool_none (bF I q (by simp))
  |bl j=>cases ry;exact eq_bool (bF I q FU)
  |str j=>obtain ⟨t',rfl⟩:=ry;exact PySem.EqMixed.eq_bool_str (bF I q (by simp))
  |_=>exact absurd (show false=true from hs) SM
 |int i=>
  obtain ⟨t,rfl⟩:=rx;cases y with
  |bZ=>cases ry;exact PySem.EqNone.eq_int_none (bF I q (by simp))
  |int j=>obtain ⟨t',rfl⟩:=ry;exact eq_int (bF I q DA)
  |str j=>obtain ⟨t',rfl⟩:=ry;exact PySem.EqMixed.eq_int_str (bF I q (by simp))
  |_=>exact absurd (show false=true from hs) SM
 |str i=>
  obtain ⟨t,rfl⟩:=rx;cases y with
  |bZ=>cases ry;exact PySem.EqNone.eq_str_none (bF I q (by simp))
  |bl j=>cases ry;exact PySem.EqMixed.eq_str_bool (bF I q (by simp))
  |int j=>obtain ⟨t',rfl⟩:=ry;exact PySem.EqMixed.eq_str_int (bF I q (by simp))
  |str j=>obtain ⟨t',rfl⟩:=ry;exact eq_str (bF I q DB)
  |_=>exact absurd (show false=true from hs) SM
 |BL i=>
  obtain ⟨t,rfl⟩:=rx;cases y with
  |BL j=>obtain ⟨t',rfl⟩:=ry;exact PySem.W.eq_bytes (bF I q DC)
  |_=>exact absurd (show false=true from hs) SM
 |_=>cases y<;>exact absurd (show false=true from hs) SM
theorem z3:oI X (compareOp .NotEq) M6:=by
 intro pins s σ H x y v u Q I rx ry h;obtain ⟨hs,q⟩:=h;cases x with
 |bZ=>
  cases rx;cases y with
  |bZ=>cases ry;exact PySem.EqNone.ne_none_none (bF I q (by simp))
  |bl j=>cases ry;exact PySem.EqNone.ne_none_bool (bF I q (by simp))
  |int j=>obtain ⟨t',rfl⟩:=ry;exact PySem.EqNone.ne_none_int (bF I q (by simp))
  |str j=>obtain ⟨t',rfl⟩:=ry;exact PySem.EqNone.ne_none_str (bF I q (by simp))
  |_=>exact absurd (show false=true from hs) SM
 |bl i=>
  cases rx;cases y with
  |bZ=>cases ry;exact PySem.EqNone.ne_bool_none (bF I q (by simp))
  |bl j=>cases ry;exact ne_bool (bF I q (congrArg not FU))
  |str j=>obtain ⟨t',rfl⟩:=ry;exact PySem.EqMixed.ne_bool_str (bF I q (by simp))
  |_=>exact absurd (show false=true from hs) SM
 |int i=>
  obtain ⟨t,rfl⟩:=rx;cases y with
  |bZ=>cases ry;exact PySem.EqNone.ne_int_none (bF I q (by simp))
  |int j=>obtain ⟨t',rfl⟩:=ry;exact ne_int (bF I q (congrArg not DA))
  |str j=>obtain ⟨t',rfl⟩:=ry;exact PySem.EqMixed.ne_int_str (bF I q (by simp))
  |_=>exact absurd (show false=true from hs) SM
 |str i=>
  obtain ⟨t,rfl⟩:=rx;cases y with
  |bZ=>cases ry;exact PySem.EqNone.ne_str_none (bF I q (by simp))
  |bl j=>cases ry;exact PySem.EqMixed.ne_str_bool (bF I q (by simp))
  |int j=>obtain ⟨t',rfl⟩:=ry;exact PySem.EqMixed.ne_str_int (bF I q (by simp))
  |str j=>obtain ⟨t',rfl⟩:=ry;exact ne_str (bF I q (congrArg not DB))
  |_=>exact absurd (show false=true from hs) SM
 |BL i=>
  obtain ⟨t,rfl⟩:=rx;cases y with
  |BL j=>obtain ⟨t',rfl⟩:=ry;exact PySem.W.ne_bytes (bF I q (congrArg not DC))
  |_=>exact absurd (show false=true from hs) SM
 |_=>cases y<;>exact absurd (show false=true from hs) SM
theorem sZ:oI X (compareOp .Lt) (HQ λi j=>.bl (decide (i<j))):=Ii λ_ _ _ _ _ _ _ q=>lt_int q
theorem wv:oI X (compareOp .LtE) (HQ λi j=>.bl (decide (i<=j))):=Ii λ_ _ _ _ _ _ _ q=>le_int q
theorem iP:oI X (compareOp .Gt) (HQ λi j=>.bl (decide (j<i))):=Ii λ_ _ _ _ _ _ _ q=>gt_int q
theorem DD:oI X (compareOp .GtE) (HQ λi j=>.bl (decide (j<=i))):=Ii λ_ _ _ _ _ _ _ q=>ge_int q
theorem KP:oI X (compareOp .Is) (λx y H Q=>y= .bZ/\Q (.bl (decide (x= .bZ))) H):=by
 intro pins s σ H x y v u Q I rx ry h;obtain ⟨rfl,q⟩:=h;cases ry;refine is_none_gen (bF I q ?_);cases x<;>first
  |(cases rx;rfl)
  |(obtain ⟨t,rfl⟩:=rx;rfl)
theorem Ik:oI X (compareOp .IsNot) (λx y H Q=>y= .bZ/\Q (.bl (!decide (x= .bZ))) H):=by
 intro pins s σ H x y v u Q I rx ry h;obtain ⟨rfl,q⟩:=h;cases ry;refine isnot_none_gen (bF I q ?_);cases x<;>first
  |(cases rx;rfl)
  |(obtain ⟨t,rfl⟩:=rx;rfl)
theorem aE (b:Expr) (h:op≠.In:=by decide) (h2:op≠.NotIn:=by decide):behindInMarks op b=false:=by
 have e1:(op==CmpOp.In)=false:=by cases op<;>first|rfl|exact absurd rfl h
 have e2:(op==CmpOp.NotIn)=false:=by cases op<;>first|rfl|exact absurd rfl h2
 cases b<;>simp [behindInMarks,e1,e2]
theorem iQ (ho:oI X (compareOp op) r) (ha:PE X a ta) (hb:PE X b tb) (hm:behindInMarks op b=false):PE X (.Compare a [op] [b] pos) (Ih r ta tb):=by intro pins s σ H Q I h;exact wpAny_Compare1 (KN ha hb I h λv u s2 x y H2 I2 rx ry q=>ho pins s2 σ H2 x y v u Q I2 rx ry q) hm
noncomputable def FV (t:TE):TT:=λσ H Q=>t σ H λx H'=>∃k,x= .bl k/\Q k H'
theorem aA (ho:oI X (compareOp op) r) (ha:PE X a ta) (hb:PE X b tb) (hm:behindInMarks op b=false):PT X (.Compare a [op] [b] pos) (FV (Ih r ta tb)):=by
 intro pins s σ H Q I h;refine wpAny_isTrue_Compare1 (ci (ha pins s σ H _ I h) λv s1 #[x,H1,I1,r1,q1]=>ci (hb pins s1 σ H1 _ I1 q1) λu s2 #[y,H2,I2,r2,q2]=>ci (ho pins s2 σ H2 x y v u _ I2 r1 r2 q2) λc s3 #[z,H3,I3,r3,k,e,q3]=>?_) hm
 subst e;cases r3;exact UC #[H3,I3,q3]
noncomputable def Cg (r r':R2) (ta tb tc:TE):TE:=λσ H Q=>ta σ H λx H1=>tb σ H1 λy H2=>r x y H2 λz H3=>∃k,z= .bl k/\
 (if k=true then tc σ H3 λw' H4=>r' y w' H4 Q else Q (.bl false) H3)
theorem FW (ho:oI X (compareOp op) r) (ho':oI X (compareOp op') r') (ha:PE X a ta) (hb:PE X b tb) (hc:PE X c tc)
 (hm:lastMarks [op,op'] [b,c]=false:=by with_unfolding_all rfl):PE X (.Compare a [op,op'] [b,c] pos) (Cg r r' ta tb tc):=by
 intro pins s σ H Q I h;refine Compare_chain (ci (ha pins s σ H _ I h) λv s1 #[x,H1,I1,r1,q1]=>chain_link (ci (hb pins s1 σ H1 _ I1 q1) λu s2 #[y,H2,I2,r2,q2]=>ci (ho pins s2 σ H2 x y v u _ I2 r1 r2 q2) λd s3 #[z,H3,I3,r3,k,e,q3]=>?_)) hm
 subst e;cases r3;refine UC ?_;cases k with
 |false=>exact ite_ff #[.bl false,H3,I3,rfl,q3]
 |true=>exact ite_tt (chain_last (ci (hc pins s3 σ H3 _ I3 q3) λw' s4 #[z',H4,I4,r4,q4]=>ho' pins s4 σ H4 y z' u w' Q I4 r2 r4 q4))
theorem s_:(sizeLine:Nat)<2^63:=by rw [sizeLine_eq];decide
theorem Ch:oI X (binaryOp .Add) (λx y H Q=>∃i j,x= .str i/\y= .str j/\i.length+j.length<=sizeLine/\Q (.str (i++j)) H):=by intro pins s σ H x y v u Q I rx ry h;obtain ⟨i,j,rfl,rfl,hz,q⟩:=h;obtain ⟨t,rfl⟩:=rx;obtain ⟨t',rfl⟩:=ry;exact add_str (λt' tk=>#[.str (i++j),H,I.tok _,#[_,rfl],q]) hz
theorem vals1 (r:Vals [x] us):∃u,us=[u]/\RelV x u:=by
 cases r with
 |cons r1 r2=>cases r2;exact #[_,rfl,r1]
theorem vals2 (r:Vals [x,y] us):∃u w',us=[u,w']/\RelV x u/\RelV y w':=by
 cases r with
 |cons r1 r2=>
  cases r2 with
  |cons r3 r4=>cases r4;exact #[_,_,rfl,r1,r3]
theorem Ey (hc:X.calm=true):eR X (.builtin "max") (λxs H Q=>∃i j,xs=[.int i,.int j]/\Q (.int (if j>i then j else i)) H):=by
 intro pins s σ H xs us Q I r h;obtain ⟨i,j,rfl,q⟩:=h;obtain ⟨u,w',rfl,⟨t,rfl⟩,⟨t',rfl⟩⟩:=vals2 r;refine max_two_ints (I.ok.hd hc) λh' tk k=>#[_,H,I.kept k,?_,q];by_cases hj:j>i
 .rw [if_pos hj,if_pos hj];exact #[_,rfl]
 .rw [if_neg hj,if_neg hj];exact #[_,rfl]
theorem Ez (hc:X.calm=true):eR X (.builtin "min") (λxs H Q=>∃i j,xs=[.int i,.int j]/\Q (.int (if j<i then j else i)) H):=by
 intro pins s σ H xs us Q I r h;obtain ⟨i,j,rfl,q⟩:=h;obtain ⟨u,w',rfl,⟨t,rfl⟩,⟨t',rfl⟩⟩:=vals2 r;refine min_two_ints (I.ok.hd hc) λh' tk k=>#[_,H,I.kept k,?_,q];by_cases hj:j<i
 .rw [if_pos hj,if_pos hj];exact #[_,rfl]
 .rw [if_neg hj,if_neg hj];exact #[_,rfl]
theorem FX:eR X (.builtin "ord") (λxs H Q=>∃x,xs=[.str x]/\x.length=1/\Q (.int (x.cps.getD 0 0:Nat)) H):=by intro pins s σ H xs us Q I r h;obtain ⟨x,rfl,hz,q⟩:=h;obtain ⟨u,rfl,t,rfl⟩:=vals1 r;exact ord_of_one hz #[.int _,H,I.tok _,#[_,rfl],q]
end
end L2
namespace L2
open PySem PySem.Spec PyProof.Rows
structure Ci (h:Ti) (x dx C:KE) (mA:Str->Option UU):Prop where
 obj:h.get? x=some (Ud C dx)
 ns:h.Ns1 dx mA
 ne:dx≠x
theorem EA {h:Ti} {dx:KE} {mA:Str->Option UU} (n:h.Ns1 dx mA):∃od,h.get? dx=some od/\∀name,PySem.W.lookIn name od=some (mA name):=by
 obtain ⟨o,es,ep,ho,hd,hk,_,hm⟩:=n;refine #[o,ho,λname=>?_];have e:=hm name;unfold nsFind findBy at e;rw [<-Array.find?_toList] at e;unfold PySem.W.lookIn;rw [hd];dsimp only;split
 .rename_i y q;rw [q] at e;exact congrArg some e
 .rename_i q;rw [q] at e;have a:es.toList.any (·.refKey)=false:=by rw [List.any_eq_false];intro y hy;obtain ⟨z,t,hkey⟩:=hk y (Array.mem_toList_iff.mp hy);simp [DictEntry.refKey,hkey]
  have a':¬es.toList.any (·.refKey)=true:=by rw [a];exact SM
  rw [if_neg a'];exact congrArg some e
theorem Ci.look (I:Ci h x dx C mA):∃od,PySem.W.InstAt h x (Ud C dx) C (some od)/\∀name,PySem.W.lookIn name od=some (mA name):=
 let ⟨od,ho,hl⟩:=EA I.ns
 #[od,#[I.obj,rfl,rfl,ho],hl]
section
variable {prog:SN} {w:S_} {A:Tl} {E:UU->Se->Prop} {s:Se} {K:UT} {x dx C f:KE} {mA:Str->Option UU} {name:Str} {v:UU}
theorem get_map {expr:Bool} {Q:UU->Se->Prop} (X:K.In s.heap) (I:Ci s.heap x dx C mA) (hg:PySem.W.plainGet K C name=true) (hh:PySem.W.hasDictIn K C=true)
 (ha:TM K (.ref C) name=some none) (hv:mA name=some v) (hv':PySem.W.handedIn v=true) (h:Q v {s with toks:=s.toks+1}):
 wpAny (model prog w) A (getAttr (.ref x) name expr) Q E s:=by
 obtain ⟨od,J,hl⟩:=I.look;exact PySem.W.get_value X J (PySem.W.plainGet_of hg).1 (PySem.W.findObj_own hh ha rfl (by rw [hl,hv])) hv' h
theorem FY {pl:Sem Bool} {Q:UU×List UU->Se->Prop} (X:K.In s.heap) (I:Ci s.heap x dx C mA) (hg:PySem.W.plainGet K C name=true)
 (hf:TM K (.ref C) name=some (some (.ref f))) (ht:PySem.W.isFn K (.ref f)=true) (hv:mA name=none) (h:Q (.ref f,[.ref x]) s):
 wpAny (model prog w) A (getMethod (.ref x) name pl) Q E s:=by
 obtain ⟨od,J,hl⟩:=I.look;exact PySem.W.method_fn X J (PySem.W.plainGet_of hg).1 (PySem.W.plainGet_of hg).2 hf (beq_iff_eq.mp ht) (by show (PySem.W.lookIn name od).map (·.isSome)=some false;rw [hl,hv];rfl) h
theorem Il {Q:Unit->Se->Prop} (X:K.In s.heap) (I:Ci s.heap x dx C mA)
 (hs:TM K (.ref C) "__setattr__" =some (some (.builtin "object.__setattr__"))) (hp:PySem.W.plainOver K C=true) (ht:PySem.W.takerIn K C name=some none) (hh:PySem.W.hasDictIn K C=true)
 (hw:PySem.Within mA ns) (hsz:ns.length<=sizeLine)
 (h:∀h',Ci h' x dx C (λy=>if y=name then some v else mA y)->Ti.SameBut dx s.heap h'->Q () {s with heap:=h',toks:=s.toks+2}):
 wpAny (model prog w) A (setAttr (.ref x) name v) Q E s:=by
 obtain ⟨od,J,hl⟩:=I.look;refine PySem.W.set_plain X J hs (PySem.W.osa_open (s:={s with toks:=s.toks+1}) (r:=none) X J hp ht λb=>?_);obtain ⟨cd,hc,hd'⟩:=PySem.W.any_some hh;have hx:s.heap.get? x=some ⟨.ref C,some dx,.plain,#[]⟩:=I.obj;refine Su (S6 (Su (Su (wpAny_loadPart hx (Su (PySem.W.Looks.here (s:={s with toks:=s.toks+1}) (PySem.W.looks_clsIn X hc) ?_))))));rw [hd'];refine S6 (a:=some dx) (Su (S6 (Su ?_)));refine wpAny_nsSet1 (s:={s with toks:=s.toks+1}) I.ns λh' hn2 hs2=>?_;obtain ⟨oD,esD,epD,hoD,hdD,hcD⟩:=hn2.count (PySem.Within.cons name v hw);refine Su (wpAny_lookBehind hoD (by rw [hdD];exact pastItsLine_dict (SA hcD (by rw [Si];omega))) ?_);exact S6 (h _ #[(hs2.2 _ (Ne.symm I.ne)).trans I.obj,hn2,I.ne] hs2)
theorem FZ {R:Result->Se->Prop} (X:K.In s.heap) (hm:PySem.W.makesIn K C=true)
 (hi:TM K (.ref C) "__init__" =some (some (.ref f))) (hf:PySem.W.typeIn K (.ref f)=some (.type "function"))
 (h:codeAny (model prog w) (A.under (.builtin "type.__call__" #[.ref C::vs,kw])) (.call (.ref f) #[.ref (s.heap.objs.size+1)::vs,kw]) (PySem.W.InitBack (s.heap.objs.size+1) R)
  {s with heap:=(s.heap.push TY).push (Ud C s.heap.objs.size)}):
 codeAny (model prog w) A (.call (.ref C) #[vs,kw]) R s:=by
 obtain ⟨hh,g,d,t,os⟩:=s;exact PySem.W.make_core (PySem.W.makes_of X hm) (PySem.W.looks_findIn X hi) (λself=>PySem.W.bind_fn X self hf) (.inl rfl) h
end
noncomputable def gD (f:Str) (v:V):List (Str×V)->List (Str×V)
 |[]=>[(f,v)]
 |(g,x)::r=>if g=f then (g,v)::r else (g,x)::gD f v r
theorem qU (f g:Str) (v:V):∀fs:List (Str×V),(gD f v fs).lookup g=if g=f then some v else fs.lookup g
 |[]=>by
  show UB g [(f,v)]=_;by_cases h:g=f
  .have hb:(g==f)=true:=beq_iff_eq.mpr h;simp only [UB,hb,if_pos h]
  .have hb:(g==f)=false:=beq_eq_false_iff_ne.mpr h;simp only [UB,hb,if_neg h]
 |(k,x)::r=>by
  have ih:=qU f g v r;rw [show gD f v ((k,x)::r)=(if k=f then (k,v)::r else (k,x)::gD f v r) from rfl];by_cases hk:k=f
  .rw [if_pos hk];by_cases h:g=k
   .have hb:(g==k)=true:=beq_iff_eq.mpr h;simp only [UB,hb,if_pos (h.trans hk)]
   .have hb:(g==k)=false:=beq_eq_false_iff_ne.mpr h;simp only [UB,hb,if_neg (λe:g=f=>h (e.trans hk.symm))]
  .rw [if_neg hk];by_cases h:g=k
   .have hb:(g==k)=true:=beq_iff_eq.mpr h;simp only [UB,hb,if_neg (λe:g=f=>hk (h.symm.trans e))]
   .have hb:(g==k)=false:=beq_eq_false_iff_ne.mpr h;simp only [UB,hb];exact ih
theorem qc (f:Str) (v:V):∀fs:List (Str×V),f∈(gD f v fs).map (·.1)/\∀g,g∈fs.map (·.1)->g∈(gD f v fs).map (·.1)
 |[]=>#[by simp [gD],λg h=>by simp at h]
 |(k,x)::r=>by
  obtain ⟨i1,i2⟩:=qc f v r;rw [show gD f v ((k,x)::r)=(if k=f then (k,v)::r else (k,x)::gD f v r) from rfl];by_cases hk:k=f
  .rw [if_pos hk];subst hk;exact #[by simp,λg h=>by simpa using h]
  .rw [if_neg hk];refine #[?_,λg h=>?_]
   .rw [S1];exact Sh _ i1
   .rw [S1] at h ⊢;rcases (Sg).mp h with e|e
    .exact (Sg).mpr (.inl e)
    .exact Sh _ (i2 g e)
theorem qV (f:Str) (v:V):∀fs:List (Str×V),(gD f v fs).length<=fs.length+1
 |[]=>by simp [gD]
 |(k,x)::r=>by
  have ih:=qV f v r;rw [show gD f v ((k,x)::r)=(if k=f then (k,v)::r else (k,x)::gD f v r) from rfl];by_cases hk:k=f
  .rw [if_pos hk,Si,Si];omega
  .rw [if_neg hk,Si,Si];omega
theorem lw.some_of (r:lw (some v) o):∃u,o=some u/\RelV v u:=by
 cases o with
 |none=>exact (show False from r).elim
 |some u=>exact #[u,rfl,r]
theorem lw.none_of (r:lw none o):o=none:=by
 cases o with
 |none=>rfl
 |some u=>exact (show False from r).elim
theorem EB (r:RelV v u):PySem.W.handedIn u=true:=by
 cases v with
 |bZ=>cases (show u=Uy from r);rfl
 |bl b=>cases (show u=UU.bool b from r);rfl
 |int i=>obtain ⟨t,e⟩:=(show∃t,u=UU.int i t from r);cases e;rfl
 |str x=>obtain ⟨t,e⟩:=(show∃t,u=UU.str x t from r);cases e;rfl
 |BL b=>obtain ⟨t,e⟩:=(show∃t,u=UU.bytes b t from r);cases e;rfl
 |Pt b=>obtain ⟨t,e⟩:=(show∃t,u=UU.float b t from r);cases e;rfl
 |ref a=>cases (show u=Sy a from r);rfl
 |ty n=>cases (show u=UU.type n from r);rfl
section
variable {P:SN} {w:S_} {H H':Hp} {h h':Ti} {a C dx:KE} {fs fs':List (Str×V)}
theorem xO (a7:iO P w H h) (e:H a=some (.ins C dx fs)):∃mA,Ci h a dx C mA/\(∀f,lw (fs.lookup f) (mA f))/\PySem.Within mA (fs.map (·.1))/\fs.length<=1000/\H dx=some (.own a):=by obtain ⟨d,z,ne,ob,mA,n,r,q⟩:=(show dE P w H h a (.ins C dx fs) from a7 a _ e);exact #[mA,#[ob,n,ne],r,q,z,d]
end
theorem kW.get {K:UT} {C:KE} (c:kW K C) (f:Str):PySem.W.plainGet K C f=true:=c.pg
theorem aO.Nq {K:UT} {C:KE} {f:Str} (n:aO K C f):PySem.W.takerIn K C f=some none:=by unfold PySem.W.takerIn;rw [show TM K (.ref C) f=some none from n];rfl
section
variable {X:Cx} {pins:List (KE×Obj)} {σ:St} {H:Hp} {s:Se} {a C dx:KE} {fs:List (Str×V)} {f:Str} {v:V} {A:Tl} {E:UU->Se->Prop}
theorem tj {b:Bool} {Q:UU->Se->Prop} (I:Inv X pins σ H s) (e:H a=some (.ins C dx fs)) (c:kW X.K C) (n:aO X.K C f) (l:fs.lookup f=some v)
 (h:∀u s',Inv X pins σ H s'->RelV v u->Q u s'):wpAny (model X.prog X.w) A (getAttr (.ref a) f b) Q E s:=by
 obtain ⟨mA,O,r,_,_,_⟩:=xO I.a7 e;obtain ⟨u,hu,ru⟩:=lw.some_of (v:=v) (o:=mA f) (by rw [<-l];exact r f);exact get_map I.sR O (c.get f) c.hd n hu (EB ru) (h u _ (I.tok _) ru)
theorem kf {pl:Sem Bool} {Q:UU×List UU->Se->Prop} (I:Inv X pins σ H s) (e:H a=some (.ins C dx fs)) (c:kW X.K C) (k:Meth X.K C m g) (l:fs.lookup m=none)
 (h:Q (.ref g,[.ref a]) s):wpAny (model X.prog X.w) A (getMethod (.ref a) m pl) Q E s:=by
 obtain ⟨mA,O,r,_,_,_⟩:=xO I.a7 e;have hn:mA m=none:=lw.none_of (by rw [<-l];exact r m);exact FY I.sR O (c.get m) k.at_ k.fn hn h
theorem tm {Q:Unit->Se->Prop} (I:Inv X pins σ H s) (e:H a=some (.ins C dx fs)) (c:kW X.K C) (n:aO X.K C f) (hl:fs.length<1000) (ry:RelV y u)
 (h:∀s',Inv X pins σ (upd H a (.ins C dx (gD f y fs))) s'->Q () s'):wpAny (model X.prog X.w) A (setAttr (.ref a) f u) Q E s:=by
 obtain ⟨mA,O,r,wi,_,ho⟩:=xO I.a7 e;have hz:(fs.map (·.1)).length<=sizeLine:=by rw [w4,sizeLine_eq];omega
 refine Il I.sR O c.sa c.po n.Nq c.hd wi hz λh' O' sb=>h _ ?_;have hd:∃o,h'.get? dx=some o:=let ⟨o,_,_,e',_⟩:=O'.ns;⟨o,e'⟩
 refine I.write (x:=a) (e:=dx) (by rw [e];exact True.intro) (.inr ho) (λb q hb z=>(sb.2 b hb).trans z) hd ?_;refine #[by rw [ai O.ne];exact ho,?_,O.ne,O'.obj,_,O'.ns,λg=>?_,λg hg=>?_]
 .have:=qV f y fs;omega
 .show lw ((gD f y fs).lookup g) (if g=f then some u else mA g);rw [qU];by_cases q:g=f
  .rw [if_pos q,if_pos q];exact ry
  .rw [if_neg q,if_neg q];exact r g
 .by_cases q:g=f
  .rw [q];exact (qc f y fs).1
  .refine (qc f y fs).2 g (wi g λz=>hg ?_);show (if g=f then some u else mA g)=none;rw [if_neg q];exact z
theorem Inv.made (I:Inv X pins σ H s):Inv X pins σ (upd (upd H s.heap.objs.size (.own (s.heap.objs.size+1))) (s.heap.objs.size+1) (.ins C s.heap.objs.size []))
 {s with heap:=(s.heap.push TY).push (Ud C s.heap.objs.size)}:=by
 have e1:(s.heap.push TY).get? s.heap.objs.size=some TY:=SL s.heap rfl;have e2:((s.heap.push TY).push (Ud C s.heap.objs.size)).get? (s.heap.objs.size+1)=some (Ud C s.heap.objs.size):=by
  have:=SL (s.heap.push TY) (o:=Ud C s.heap.objs.size) rfl
  rwa [TQ] at this
 have e3:(s.heap.push TY).Ns s.heap.objs.size (λ_=>none):=#[TY,#[],_,e1,rfl,(λe he=>absurd he (by simp)),λ_=>rfl];have I1:=I.laid (a:=s.heap.objs.size) (o:=.own (s.heap.objs.size+1)) (h':=s.heap.push TY) (t':=s.toks) (λb u q=>Sn _ q) (Sf _) #[_,e1];refine I1.laid (a:=s.heap.objs.size+1) (o:=.ins C s.heap.objs.size []) (t':=s.toks) (λb u q=>Sn _ q) (Nat.le_of_eq (TQ _ _)) ?_;have ne:s.heap.objs.size≠s.heap.objs.size+1:=Tu (UH _);refine #[by rw [ai ne,ae],SW _,ne,e2,λ_=>none,(Ti.Ns1.of_empty e3).at λo q=>Sn _ q,λ_=>True.intro,λy hy=>absurd rfl hy]
theorem Im {Q:UU->Se->Prop} (hb:attributeBase e f env (eval e env)=eval e env)
 (h:wpAny (model prog w) A (eval e env) (λo s₁=>wpAny (model prog w) A (getAttr o f true) Q E s₁) E s):wpAny (model prog w) A (eval (.Attribute e f pos) env) Q E s:=
 Attribute_any_ h (by rw [arm_eval_Attribute,hb])
end
noncomputable def EC (K:UT) (ta:TE) (f:Str):TE:=λσ H Q=>ta σ H λx H1=>∃a C dx fs v,x= .ref a/\H1 a=some (.ins C dx fs)/\kW K C/\aO K C f/\fs.lookup f=some v/\Q v H1
noncomputable def ED (K:UT) (ta tv:TE) (f:Str):TS:=λD σ H=>tv σ H λy H1=>ta σ H1 λx H2=>∃a C dx fs,x= .ref a/\H2 a=some (.ins C dx fs)/\kW K C/\aO K C f/\fs.length<1000/\
 D.nx σ (upd H2 a (.ins C dx (gD f y fs)))
def Nr (X:Cx) (op:Operator) (rd:V->V->Hp->VK->Prop):Prop:=
 ∀(pins:List (KE×Obj)) (s:Se) (σ:St) (H:Hp) (x y:V) (u v:UU) (Q:VK),Inv X pins σ H s->RelV x u->RelV y v->rd x y H Q->wpAny (model X.prog X.w) X.A (inplaceOp op u v) (EP X pins σ Q) X.xe s
noncomputable def DE (K:UT) (ta tv:TE) (rd:V->V->Hp->VK->Prop) (f:Str):TS:=λD σ H=>ta σ H λx H1=>∃a C dx fs v,x= .ref a/\H1 a=some (.ins C dx fs)/\kW K C/\aO K C f/\fs.lookup f=some v/\
 tv σ H1 λy H2=>rd v y H2 λz H3=>∃dx' fs',H3 a=some (.ins C dx' fs')/\fs'.length<1000/\D.nx σ (upd H3 a (.ins C dx' (gD f z fs')))
section
variable {X:Cx} {o e value:Expr} {f:Str} {pos pos' tpos:Pos} {ta tv:TE}
theorem aq (he:PE X e ta) (hb:attributeBase e f X.env (eval e X.env)=eval e X.env):PE X (.Attribute e f pos) (EC X.K ta f):=by intro pins s σ H Q I h;refine Im hb (ci (he pins s σ H _ I h) λu s1 zq=>?_);obtain ⟨x,H1,I1,rx,a,C,dx,fs,v,ex,ea,c,n,l,q⟩:=zq;subst ex;obtain rfl:u=Sy a:=rx;exact tj I1 ea c n l λu' s2 I2 ru=>#[v,H1,I2,ru,q]
theorem a9 (ha:PE X o ta) (hv:PE X value tv) (hs:swapsWith value (some (.Attribute o f pos')) pos.line X.env=pure false):PS X (.Assign [.Attribute o f pos'] value pos) (ED X.K ta tv f):=by intro pins s σ H D I h;refine plainObj_wpAny_Assign_Attribute (ci (hv pins s σ H _ I h) λu s1 #[y,H1,I1,ry,q]=>ci (ha pins s1 σ H1 _ I1 q) λov s2 zq=>?_) hs;obtain ⟨x,H2,I2,rx,a,C,dx,fs,ex,ea,c,n,l,q2⟩:=zq;subst ex;obtain rfl:ov=Sy a:=rx;exact tm I2 ea c n l ry λs3 I3=>#[σ,_,I3,q2]
theorem qe {rd:V->V->Hp->VK->Prop} (ha:PE X o ta) (hv:PE X value tv) (hop:Nr X op rd):PS X (.AugAssign (.Attribute o f tpos) op value pos) (DE X.K ta tv rd f):=by intro pins s σ H D I h;refine wpAny_AugAssign_AttributeAny (ci (ha pins s σ H _ I h) λov s1 zq=>?_);obtain ⟨x,H1,I1,rx,a,C,dx,fs,v,ex,ea,c,n,l,q⟩:=zq;subst ex;obtain rfl:ov=Sy a:=rx;refine tj I1 ea c n l λu s2 I2 ru=>ci (hv pins s2 σ H1 _ I2 q) λw3 s3 #[y,H2,I3,ry,q3]=>ci (hop pins s3 σ H2 v y u w3 _ I3 ru ry q3) λw4 s4 zq=>?_;obtain ⟨z,H3,I4,rz,dx',fs',ea',l',q4⟩:=zq;exact tm I4 ea' c n l' rz λs5 I5=>#[σ,_,I5,q4]
noncomputable def Nt:V->V->Hp->VK->Prop:=λx y H Q=>∃i j,x= .int i/\y= .int j/\Q (.int (i+j)) H
theorem Cj:Nr X .Add Nt:=by rintro pins s σ H x y u v Q I rx ry ⟨i,j,rfl,rfl,q⟩;obtain ⟨t,rfl⟩:=(show∃t,u=UU.int i t from rx);obtain ⟨t',rfl⟩:=(show∃t',v=UU.int j t' from ry);exact PyProof.Rows.iadd_int #[.int (i+j),H,I.tok _,#[_,rfl],q]
theorem JT {pl:Sem Bool} {Q:UU->Se->Prop} (he:PE X e te) (I:Inv X pins σ H s)
 (h:te σ H λx H1=>∃a C dx fs g,x= .ref a/\H1 a=some (.ins C dx fs)/\kW X.K C/\Meth X.K C m g/\fs.lookup m=none/\
  ∀s1,Inv X pins σ H1 s1->wpAny (model X.prog X.w) X.A (callWith pos (.ref g) [.ref a] (backTo pos (starEach args X.env)) (backToKw pos (keywordEach [] X.env))) Q X.xe s1)
 (ht:eval (.Call (.Attribute e m apos) args [] pos) X.env=(do
  let ov<-eval e X.env
  standAt apos.atName
  let (f,first)<-holding [ov] (getMethod ov m pl)
  callWith pos f first (backTo pos (starEach args X.env)) (backToKw pos (keywordEach [] X.env)))):
 wpAny (model X.prog X.w) X.A (eval (.Call (.Attribute e m apos) args [] pos) X.env) Q X.xe s:=by
 refine PySem.W.methodCall_KW (pl:=pl) (ci (he pins s σ H _ I h) λu s1 zq=>?_) ht;obtain ⟨x,H1,I1,rx,a,C,dx,fs,g,ex,ea,c,k,l,q⟩:=zq;subst ex;obtain rfl:u=Sy a:=rx;exact kf I1 ea c k l (q s1 I1)
end
section
variable {X:Cx} {pins:List (KE×Obj)} {σ:St} {H:Hp} {s:Se} {A:Tl} {E:UU->Se->Prop} {Q:UU->Se->Prop} {c:UU} {b:Bool}
end
end L2
namespace L2
open PySem PySem.Spec PyProof.Rows
theorem cE.mono {j k:Nat} (r:cE k A) (h:j<=k):cE j A:=#[r.hd,by have:=r.dp;omega,by have:=r.un;omega]
theorem cE.deeper {k:Nat} (r:cE (k+1) A) (env:Env):cE k (A.deeper env):=
 #[r.hd,by have:=r.dp;show A.depth+1+3*k+5<_;omega,by have:=r.un;show A.units+3+16*k+200<_;omega]
theorem Ck {A:Tl} {C:KE} {us:List UU} {kw:List (Str×UU)}:(A.under (.builtin "type.__call__" #[.ref C::us,kw])).depth=A.depth+1:=by first|rfl|simp [Tl.under,Code.weight,Code.isCreation,Code.isGuard,Code.isCaller,Code.frames,Code.isFrame,guardIds]
theorem Cm {A:Tl} {C:KE} {us:List UU} {kw:List (Str×UU)}:(A.under (.builtin "type.__call__" ⟨.ref C::us,kw⟩)).units=A.units+1:=by first|rfl|simp [Tl.under,Code.cUnits,Code.frames,Code.isFrame]
theorem cE.make {k:Nat} (r:cE (k+1) A) (C:KE) (us:List UU) (kw:List (Str×UU)):cE k (A.under (.builtin "type.__call__" ⟨.ref C::us,kw⟩)):=
 #[r.hd,by have:=r.dp;rw [Ck];omega,by have:=r.un;rw [Cm];omega]
theorem cE.depth {k:Nat} (r:cE k A):A.depth<recursionLimit:=by have:=r.dp;omega
theorem cE.units {k:Nat} (r:cE k A):A.units+64<cLine:=by have:=r.un;omega
noncomputable def ly:TA:=λ_ H Q=>Q [] H
noncomputable def fN (ta:TE) (tr:TA):TA:=λσ H Q=>ta σ H λx H1=>tr σ H1 λxs H2=>Q (x::xs) H2
section
variable {X:Cx} {e:Expr} {es:List Expr} {te:TE} {t:TA} {pos:Pos}
theorem fi:PA X [] ly:=λ_ _ _ _ H Q I h=>Calls.spliced_nil #[[],H,I,.nil,h]
theorem bY (ha:PE X e te) (hr:PA X es t) (hs:starEach (e::es) X.env=(false,eval e X.env)::starEach es X.env:=by rfl):PA X (e::es) (fN te t):=by intro pos pins s σ H Q I h;rw [hs];show wpAny _ _ (spliced ((false,eval e X.env)::backTo pos (starEach es X.env))) _ _ s;refine Calls.spliced_cons (ci (ha pins s σ H _ I h) λu s1 zq=>?_);obtain ⟨x,H1,I1,r1,q1⟩:=zq;exact ci (hr pos pins s1 σ H1 _ I1 q1) λus s2 #[xs,H2,I2,r2,q2]=>#[x::xs,H2,I2,.cons r1 r2,q2]
noncomputable def F0 (t:TA):TE:=λσ H Q=>t σ H λxs H1=>xs.length<=sizeLine/\∀p,H1 p=none->Q (.ref p) (upd H1 p (.tup xs))
noncomputable def F1 (t:TA):TE:=λσ H Q=>t σ H λxs H1=>xs.length<=sizeLine/\∀p,H1 p=none->Q (.ref p) (upd H1 p (.lst xs))
theorem gQ {x1} (h:PA X es t):PE X (.Tuple es x1 pos) (F0 t):=by intro pins s σ H Q I hq;refine wpAny_Tuple_spliced (ci (h pos pins s σ H _ I hq) λus s1 #[xs,H1,I1,r,z,q]=>#[by rw [<-r.length];exact z,?_]);have hf:H1 s1.heap.objs.size=none:=I1.a7.fresh (Sf _);refine #[.ref s1.heap.objs.size,upd H1 s1.heap.objs.size (.tup xs),I1.laid (t':=s1.toks) (λb u e=>Sn _ e) (Sf _) ?_,rfl,q _ hf];exact #[z,us,r,#[_,SL _ rfl,rfl,_,rfl]]
theorem aQ (h:PA X es t):PE X (.List es pos) (F1 t):=by intro pins s σ H Q I hq;refine wpAny_List_spliced (ci (h pos pins s σ H _ I hq) λus s1 #[xs,H1,I1,r,z,q]=>#[by rw [<-r.length];exact z,?_]);have hf:H1 s1.heap.objs.size=none:=I1.a7.fresh (Sf _);refine #[.ref s1.heap.objs.size,upd H1 s1.heap.objs.size (.lst xs),I1.laid (t':=s1.toks) (λb u e=>Sn _ e) (Sf _) ?_,rfl,q _ hf];exact #[z,us,0,r,SL _ rfl]
end
noncomputable abbrev Sp:=List V->Hp->VK->XK->Prop
noncomputable abbrev sm:=List Env->Hp->Se->XK->UU->Se->Prop
structure Cn (P:SN) (w:S_) (K:UT) (mg:Str->Option UU) (base:Ti) (A:Tl) (outer:List Env) (s:Se) (H:Hp):Prop where
 frames:A.frames=some outer
 mod:Mod K mg base
 bs:∀b o,base.get? b=some o->s.heap.get? b=some o/\H b=none
 Es:base.objs.size<=s.heap.objs.size
 mS:s.heap.FunFrames base outer
 HP:∀b∈j0 outer,H b=none
 a7:iO P w H s.heap
 bare:AllBare s.gens
def CE (outer:List Env) (P:SN) (w:S_) (H:Hp) (s:Se) (Q:VK) (u:UU) (s':Se):Prop:=
 ∃v H',s'.os=s.os/\AllBare s'.gens/\Un (j0 outer) [] H H' s.heap s'.heap/\iO P w H' s'.heap/\RelV v u/\Q v H'
def CR (CX:sm) (outer:List Env) (P:SN) (w:S_) (H:Hp) (s:Se) (Q:VK) (E:XK) (r:Result) (s':Se):Prop:=
 match r with
 | .ok (.ret u)=>CE outer P w H s Q u s'
 | .ok _=>False
 | .error e=>CX outer H s E e s'
structure gE (P:SN) (w:S_) (K:UT) (mg:Str->Option UU) (base:Ti) (CX:sm) (k:Nat) (f:KE) (fd:Uf) (ps:List Str) (sp:Sp):Prop where
 len:∀vs H Q E,sp vs H Q E->vs.length=ps.length
 run:∀(A:Tl) (outer:List Env) (s:Se) (H:Hp) (args:Args) (us:List UU) (vs:List V) (Q:VK) (E:XK),cE k A->Cn P w K mg base A outer s H->BindsTo s fd args (ps.zip us)->Vals vs us->sp vs H Q E->
  codeAny (model P w) A (.call (.ref f) args) (CR CX outer P w H s Q E) s
theorem gE.mono {P:SN} {w:S_} {K:UT} {mg:Str->Option UU} {base:Ti} {CX:sm} {j k:Nat} {f:KE} {fd:Uf} {ps:List Str} {sp:Sp} (F:gE P w K mg base CX j f fd ps sp) (h:j<=k):
 gE P w K mg base CX k f fd ps sp:=#[F.len,λA outer s H args us vs Q E hr=>F.run A outer s H args us vs Q E (hr.mono h)]
theorem Cn.make {P:SN} {w:S_} {K:UT} {mg:Str->Option UU} {base:Ti} {A:Tl} {outer:List Env} {s:Se} {H:Hp} (e:Cn P w K mg base A outer s H) (C:KE) (us:List UU) (kw:List (Str×UU)):
 Cn P w K mg base (A.under (.builtin "type.__call__" #[.ref C::us,kw])) outer s H:=#[by first|exact e.frames|(simpa [Tl.under,Code.envs,Code.isFrame,pushEnvs] using e.frames),e.mod,e.bs,e.Es,e.mS,e.HP,e.a7,e.bare]
section
variable {X:Cx} {pins:List (KE×Obj)} {σ:St} {H:Hp} {s s':Se}
theorem Inv.KQ (I:Inv X pins σ H s):Cn X.prog X.w X.K X.mg X.base X.A X.stack s H:=
 #[I.ok.frames,I.ok.mod,I.bs,SA I.ok.Es I.sz,I.stack,I.my,I.a7,I.bare]
theorem Inv.after (I:Inv X pins σ H s) (h:CE X.stack X.prog X.w H s Q u s'):EP X pins σ Q u s':=by obtain ⟨v,H',os,bare,un,a7,r,q⟩:=h;obtain ⟨hh,g,d,t,os'⟩:=s';obtain rfl:os'=s.os:=os;exact #[v,H',I.call (h':=hh) (g':=g) (d':=d) (t':=t) (ch:=[]) un a7 bare (λb z=>absurd z (by simp)),r,q]
end
noncomputable def tp (sp:Sp) (dvs:List V) (E:XK) (t:TA):TE:=λσ H Q=>t σ H λvs H1=>sp (vs++dvs) H1 Q E
noncomputable def ww (C:KE) (m:Str) (sp:Sp) (dvs:List V) (E:XK) (ta:TE) (t:TA):TE:=λσ H Q=>ta σ H λx H1=>∃a dx fs,x= .ref a/\H1 a=some (.ins C dx fs)/\fs.lookup m=none/\
 t σ H1 λvs H2=>sp (x::(vs++dvs)) H2 Q E
noncomputable def wx (C:KE) (sp:Sp) (dvs:List V) (E:XK) (t:TA):TE:=λσ H Q=>t σ H λvs H1=>∀x dx,H1 x=none->H1 dx=none->dx≠x->
 sp (.ref x::(vs++dvs)) (upd (upd H1 dx (.own x)) x (.ins C dx [])) (λv H2=>v= .bZ/\Q (.ref x) H2) E
def Binds (K:UT) (fd:Uf) (ps:List Str) (ds:List UU):Prop:=
 ∀(s:Se) (us:List UU),K.In s.heap->(us++ds).length=ps.length->BindsTo s fd #[us,[]] (ps.zip (us++ds))
theorem Binds.all {K:UT} {fd:Uf} {ps:List Str} (h:∀us:List UU,us.length=ps.length->bindArgs fd #[us,[]]=pure (ps.zip us)):Binds K fd ps []:=λs us _ hl=>by rw [Td] at hl ⊢;exact .of_eq (h us hl)
def Passes (CX:sm) (X:Cx) (E:XK):Prop:=∀(pins:List (KE×Obj)) (σ:St) (H:Hp) (s:Se) (e:UU) (s':Se),Inv X pins σ H s->CX X.stack H s E e s'->X.xe e s'
section
variable {X:Cx} {CX:sm} {k:Nat} {f C:KE} {fd:Uf} {ps:List Str} {sp:Sp} {dvs:List V} {ds:List UU} {E:XK} {x m:Str} {p pos apos:Pos} {e o:Expr} {es:List Expr} {ta:TE} {t:TA}
theorem tq (F:gE X.prog X.w X.K X.mg X.base CX k f fd ps sp) (hr:cE k X.A) (hb:Binds X.K fd ps ds) (hd:Vals dvs ds) (hx:Passes CX X E)
 (I:Inv X pins σ H s) (r:Vals vs us) (h:sp (vs++dvs) H Q E):wpAny (model X.prog X.w) X.A (call (.ref f) us) (EP X pins σ Q) X.xe s:=by
 have r2:Vals (vs++dvs) (us++ds):=r.append hd;have hl:(us++ds).length=ps.length:=by rw [<-r2.length];exact F.len _ _ _ _ h
 refine wpAny_call (codeAny_mono (F.run X.A X.stack s H #[us,[]] (us++ds) (vs++dvs) Q E hr I.KQ (hb s us I.sR hl) r2 h) λr s' hq=>?_);cases r with
 |error e=>exact hx pins σ H s e s' I hq
 |ok fl=>
  cases fl with
  |ret u=>exact I.after hq
  |next=>exact TD hq
  |brk=>exact TD hq
  |cont=>exact TD hq
theorem Io (F:gE X.prog X.w X.K X.mg X.base CX k f fd ps sp) (hr:cE k X.A) (hg:Gl X x) (hm:X.mg x=some (.ref f)) (hk:TX X.K (.ref f)=true) (hb:Binds X.K fd ps ds) (hd:Vals dvs ds) (hx:Passes CX X E)
 (ha:PA X (e::es) t) (hdb:(x==("__debug__" :Str))=false:=by decide) (he:starEach (e::es) X.env=(false,eval e X.env)::starEach es X.env:=by rfl) (hpl:(backTo pos (starEach es X.env)).any (·.1)=false:=by rfl):
 PE X (.Call (.Name x p) (e::es) [] pos) (tp sp dvs E t):=by
 intro pins s σ H Q I h;refine Uv (mz I hg hm ?_ hdb);refine UM (h₀:=X.base) I.ok.mod.Kv hk (ci (ha pos pins s σ H _ I h) λus s1 #[vs,H1,I1,r,q]=>#[I1.sR,?_]) he hpl;exact tq F hr hb hd hx I1 r q
theorem Ip {pl:Sem Bool} (he:PE X o ta) (c:kW X.K C) (hm:Meth X.K C m f) (F:gE X.prog X.w X.K X.mg X.base CX k f fd ps sp) (hr:cE k X.A) (hb:Binds X.K fd ps ds) (hd:Vals dvs ds) (hx:Passes CX X E) (ha:PA X (e::es) t)
 (hst:starEach (e::es) X.env=(false,eval e X.env)::starEach es X.env:=by rfl) (hpl:(backTo pos (starEach es X.env)).any (·.1)=false:=by rfl)
 (ht:eval (.Call (.Attribute o m apos) (e::es) [] pos) X.env=(do
  let ov<-eval o X.env
  standAt apos.atName
  let (f,first)<-holding [ov] (getMethod ov m pl)
  callWith pos f first (backTo pos (starEach (e::es) X.env)) (backToKw pos (keywordEach [] X.env))):=by rfl):
 PE X (.Call (.Attribute o m apos) (e::es) [] pos) (ww C m sp dvs E ta t):=by
 intro pins s σ H Q I h;refine PySem.W.methodCall_KW (pl:=pl) (ci (he pins s σ H _ I h) λu s1 zq=>?_) ht;obtain ⟨x,H1,I1,rx,a,dx,fs,ex,ea,l,q⟩:=zq;subst ex;obtain rfl:u=Sy a:=rx;refine kf I1 ea c hm l ?_;refine UM (first:=[.ref a]) (h₀:=X.base) I.ok.mod.Kv hm.kp (ci (ha pos pins s1 σ H1 _ I1 q) λus s2 #[vs,H2,I2,r,q2]=>#[I2.sR,?_]) hst hpl;exact tq (us:=.ref a::us) (vs:=.ref a::vs) F hr hb hd hx I2 (.cons rfl r) q2
theorem F2 {pl:Sem Bool} (he:PE X o ta) (c:kW X.K C) (hm:Meth X.K C m f) (F:gE X.prog X.w X.K X.mg X.base CX k f fd ps sp) (hr:cE k X.A) (hb:Binds X.K fd ps ds) (hd:Vals dvs ds) (hx:Passes CX X E)
 (ht:eval (.Call (.Attribute o m apos) [] [] pos) X.env=(do
  let ov<-eval o X.env
  standAt apos.atName
  let (f,first)<-holding [ov] (getMethod ov m pl)
  callWith pos f first (backTo pos (starEach [] X.env)) (backToKw pos (keywordEach [] X.env))):=by rfl):
 PE X (.Call (.Attribute o m apos) [] [] pos) (ww C m sp dvs E ta ly):=by
 intro pins s σ H Q I h;refine PySem.W.methodCall_KW (pl:=pl) (ci (he pins s σ H _ I h) λu s1 zq=>?_) ht;obtain ⟨x,H1,I1,rx,a,dx,fs,ex,ea,l,q⟩:=zq;subst ex;obtain rfl:u=Sy a:=rx;refine kf I1 ea c hm l ?_;exact PySem.W.callWith_K0 (first:=[.ref a]) I1.sR hm.kp (tq (us:=[.ref a]) (vs:=[.ref a]) F hr hb hd hx I1 (.cons rfl .nil) q)
theorem z4 (M:Mk X.K C f) (F:gE X.prog X.w X.K X.mg X.base CX k f fd ps sp) (hr:cE (k+1) X.A) (hb:Binds X.K fd ps ds) (hd:Vals dvs ds)
 (hx:Passes CX X E) (I:Inv X pins σ H s) (r:Vals vs us)
 (h:∀x dx,H x=none->H dx=none->dx≠x->sp (.ref x::(vs++dvs)) (upd (upd H dx (.own x)) x (.ins C dx [])) (λv H2=>v= .bZ/\Q (.ref x) H2) E):
 wpAny (model X.prog X.w) X.A (call (.ref C) us) (EP X pins σ Q) X.xe s:=by
 have hq:=h (s.heap.objs.size+1) s.heap.objs.size (I.a7.fresh (Nat.le_succ _)) (I.a7.fresh (Sf _)) (Tu (UH _));have I2:=Inv.made (C:=C) I;have r2:Vals (V.ref (s.heap.objs.size+1)::(vs++dvs)) (Sy (s.heap.objs.size+1)::(us++ds)):=.cons rfl (r.append hd);have hl:(Sy (s.heap.objs.size+1)::us++ds).length=ps.length:=by have e:=r2.length;rw [F.len _ _ _ _ hq] at e;exact e.symm
 refine wpAny_call (FZ (f:=f) I.sR M.makes M.init (beq_iff_eq.mp M.fn) (codeAny_mono (F.run _ X.stack _ _ #[Sy (s.heap.objs.size+1)::us,[]] (Sy (s.heap.objs.size+1)::(us++ds)) _ _ E (hr.make C us [])
  (I2.KQ.make C us []) (hb _ (Sy (s.heap.objs.size+1)::us) I2.sR hl) r2 hq) λr s' hq'=>?_))
 cases r with
 |error e=>exact hx pins σ _ _ e s' I2 hq'
 |ok fl=>
  cases fl with
  |ret u=>obtain ⟨v,H',I3,rv,ev,q3⟩:=I2.after hq';subst ev;exact #[rv,#[V.ref (s.heap.objs.size+1),H',I3,rfl,q3]]
  |next=>exact TD hq'
  |brk=>exact TD hq'
  |cont=>exact TD hq'
theorem Iq (M:Mk X.K C f) (F:gE X.prog X.w X.K X.mg X.base CX k f fd ps sp) (hr:cE (k+1) X.A) (hg:Gl X x) (hm:X.mg x=some (.ref C)) (hb:Binds X.K fd ps ds) (hd:Vals dvs ds) (hx:Passes CX X E)
 (ha:PA X (e::es) t) (hdb:(x==("__debug__" :Str))=false:=by decide) (he:starEach (e::es) X.env=(false,eval e X.env)::starEach es X.env:=by rfl) (hpl:(backTo pos (starEach es X.env)).any (·.1)=false:=by rfl):
 PE X (.Call (.Name x p) (e::es) [] pos) (wx C sp dvs E t):=by
 intro pins s σ H Q I h;refine Uv (mz I hg hm ?_ hdb);refine UM (h₀:=X.base) I.ok.mod.Kv M.kp (ci (ha pos pins s σ H _ I h) λus s1 #[vs,H1,I1,r,q]=>#[I1.sR,?_]) he hpl;exact z4 M F hr hb hd hx I1 r q
theorem F3 (M:Mk X.K C f) (F:gE X.prog X.w X.K X.mg X.base CX k f fd ps sp) (hr:cE (k+1) X.A) (hg:Gl X x) (hm:X.mg x=some (.ref C)) (hb:Binds X.K fd ps ds) (hd:Vals dvs ds) (hx:Passes CX X E)
 (hdb:(x==("__debug__" :Str))=false:=by decide):PE X (.Call (.Name x p) [] [] pos) (wx C sp dvs E ly):=by
 intro pins s σ H Q I h;refine Uv (mz I hg hm ?_ hdb);exact PySem.W.callWith_K0 I.sR M.kp (z4 (us:=[]) M F hr hb hd hx I .nil h)
end
section
variable {X:Cx} {CX:sm} {k:Nat} {f C:KE} {fd:Uf} {ps ks:List Str} {sp:Sp} {E:XK} {x m:Str} {p pos apos kpos:Pos} {e o:Expr} {es:List Expr} {kws:List Keyword} {te ta:TE} {t tk:TA} {nm:Option Str}
variable {g:List UU->List UU->List UU} {gV:List V->List V->List V}
end
structure al (N P:List Str) (sc:Uz):Prop where
 kind:sc.kind= .function
 co:sc.isCoroutine=false
 gen:sc.isGenerator=false
 nd:N.Nodup
 pre:N.take P.length=P
 par:∀x∈P,sc.names.lookup x=some .local\/sc.names.lookup x=some .cell
 KR:∀y∈sc.names,y.2≠.free
theorem wy {kindOf:Str->Option Ue} {x:Str}:∀{binds:List (Str×UU)} {m:Str->Option UU},(∀v,(x,v)∉binds)->bindL kindOf binds m x=m x
 |[],_,_=>rfl
 |(n,v)::r,m,h=>by
  unfold bindL;rw [wy λw hw=>h w (Sh _ hw)];split
  .have:x≠n:=by rintro rfl;exact h v Sk
   simp [this]
  .rfl
theorem wz {kindOf:Str->Option Ue} {x:Str}:∀{binds:List (Str×UU)} {m:Str->Option UU},(∀v,(x,v)∉binds)->bindC kindOf binds m x=m x
 |[],_,_=>rfl
 |(n,v)::r,m,h=>by
  unfold bindC;rw [wz λw hw=>h w (Sh _ hw)];split
  .rfl
  .have:x≠n:=by rintro rfl;exact h v Sk
   simp [this]
theorem wA {kindOf:Str->Option Ue} {x:Str} {v:UU}:∀{P:List Str} {vs:List UU} {i:Nat} {m:Str->Option UU},P.Nodup->P[i]? =some x->vs[i]? =some v->kindOf x=some .local->
 bindL kindOf (P.zip vs) m x=some v
 |[],_,_,_,_,h,_,_=>by simp at h
 |_::_,[],_,_,_,_,h,_=>by simp at h
 |p::P,w::vs,0,m,nd,h1,h2,hk=>by simp at h1 h2;subst h1;subst h2;show bindL kindOf ((p,w)::P.zip vs) m p=_;unfold bindL;rw [wy λv hv=>((TH).mp nd).1 (List.of_mem_zip hv).1,if_pos hk];simp
 |p::P,w::vs,i+1,m,nd,h1,h2,hk=>by show bindL kindOf ((p,w)::P.zip vs) m x=_;unfold bindL;exact wA (i:=i) ((TH).mp nd).2 (by simpa using h1) (by simpa using h2) hk
theorem wB {kindOf:Str->Option Ue} {x:Str} {v:UU}:∀{P:List Str} {vs:List UU} {i:Nat} {m:Str->Option UU},P.Nodup->P[i]? =some x->vs[i]? =some v->kindOf x≠some .local->
 bindC kindOf (P.zip vs) m x=some v
 |[],_,_,_,_,h,_,_=>by simp at h
 |_::_,[],_,_,_,_,h,_=>by simp at h
 |p::P,w::vs,0,m,nd,h1,h2,hk=>by simp at h1 h2;subst h1;subst h2;show bindC kindOf ((p,w)::P.zip vs) m p=_;unfold bindC;rw [wz λv hv=>((TH).mp nd).1 (List.of_mem_zip hv).1,if_neg hk];simp
 |p::P,w::vs,i+1,m,nd,h1,h2,hk=>by show bindC kindOf ((p,w)::P.zip vs) m x=_;unfold bindC;exact wB (i:=i) ((TH).mp nd).2 (by simpa using h1) (by simpa using h2) hk
noncomputable def start (N:List Str) (vs:List V):St:=vs.map some++List.replicate (N.length - vs.length) none
noncomputable def fj (CX:sm) (P:SN) (w:S_) (K:UT) (mg:Str->Option UU) (base:Ti) (N:List Str) (qual:Str) (scope:Uz) (f:KE) (cd:UU) (A:Tl) (outer:List Env) (s:Se) (H:Hp) (E:XK):Cx where
 prog:=P
 w:=w
 K:=K
 mg:=mg
 base:=base
 A:=A.deeper (envOfC qual scope s.heap.objs.size f cd)
 N:=N
 sr:=s
 M3:=H
 env:=envOfC qual scope s.heap.objs.size f cd
 outer:=outer
 stack:=envOfC qual scope s.heap.objs.size f cd::outer
 ex:=[]
 calm:=true
 fn:=λ_=>true
 pn:=[]
 xe:=λe s'=>wpAny (model P w) (A.deeper (envOfC qual scope s.heap.objs.size f cd)) (leaving (envOfC qual scope s.heap.objs.size f cd) e) (λ_ s''=>CX outer H s E e s'') (λe' s''=>CX outer H s E e' s'') s'
theorem z5 {sc:Uz} {n:Nat} {x:Str} (h:sc.names.lookup x=some .cell):∃c,(cellsFrom n sc.names []).lookup x=some c:=by have q:=PySem.W.cellsFrom_some sc.names n [] (.inl h);exact Option.isSome_iff_exists.mp q
theorem EE {CX:sm} {P:SN} {w:S_} {K:UT} {mg:Str->Option UU} {base:Ti} {N ps:List Str} {qual:Str} {scope:Uz} {f:KE} {cd:UU} {A:Tl} {outer:List Env} {s s1:Se} {H:Hp} {E:XK} {us:List UU} {vs:List V}
 (S:al N ps scope) (hd:A.handled=none) (e0:Cn P w K mg base A outer s H) (hl:vs.length=ps.length) (r:Vals vs us)
 (x:InCallC s s.heap.objs.size (bindL (envOfC qual scope s.heap.objs.size f cd).kindOf (ps.zip us) λ_=>none) (cellsFrom (s.heap.objs.size+1) scope.names []) (bindC (envOfC qual scope s.heap.objs.size f cd).kindOf (ps.zip us) λ_=>none) s1):
 Inv (fj CX P w K mg base N qual scope f cd A outer s H E) [] (start N vs) H s1:=by
 have hpl:ps.length<=N.length:=by have:=congrArg T7 S.pre;rw [S8] at this;omega
 obtain ⟨h1,tk,rfl,hk⟩:=x.done;have noA:∀b:KE,b∉(fj CX P w K mg base N qual scope f cd A outer s H E).ex:=λb z=>absurd (show b∈([]:List KE) from z) (by simp);refine #[#[e0.mod,S.kind,rfl,rfl,Sf _,λy z c h1 h2=>?_,λy hy=>?_,λy c _ h=>?_,λ_=>hd,Tl.frames_deeper e0.frames,.inr #[rfl,rfl],λb z=>absurd z (noA b),e0.bs,e0.Es,λb _ _=>noA b,λb z=>absurd z (noA b),e0.mS,e0.HP],
  rfl,e0.bare,Un.kept hk,#[_,x.toInCall.ns,λi y v h1 h2 h3=>?_],λy c h=>#[_,x.cell y c h],e0.a7.fresh (Sf _),λy c h=>?_,λp hp=>absurd (show p∈([]:List (KE×Obj)) from hp) (by simp),e0.a7.kept hk,?_]
 .exact name_of_addr x.apart (SY h1) (SY h2)
 .have hy:scope.names.lookup y=some .cell\/scope.names.lookup y=some .free:=hy;rcases hy with hy|hy
  .exact z5 hy
  .exact absurd rfl (S.KR _ (SY hy))
 .exact T6 (x.above y c (SY h))
 .have hi:i<vs.length:=by
   unfold start at h2;by_cases hi:i<vs.length
   .exact hi
   .rw [List.getElem?_append_right (by simpa using hi)] at h2;rw [List.getElem?_replicate] at h2;split at h2<;>cases h2
  have ha:vs[i]? =some v:=by
   unfold start at h2;rw [List.getElem?_append_left (by simpa using hi),SO] at h2;cases e:vs[i]? with
   |none=>rw [e] at h2;cases h2
   |some a=>rw [e] at h2;cases h2;rfl
  obtain ⟨u,hu,rv⟩:=r.get ha;have hp:ps[i]? =some y:=by rw [<-S.pre,List.getElem?_take_of_lt (by omega)];exact h1
  have ndP:ps.Nodup:=by rw [<-S.pre];exact S.nd.sublist (List.take_sublist _ _)
  refine #[u,rv,?_];rcases S.par y (SE hp) with k|k
  .exact .inl #[k,wA ndP hp hu k]
  .obtain ⟨c,e⟩:=z5 (n:=s.heap.objs.size+1) k;refine .inr #[.inl k,c,e,?_];have q:=x.cell y c e;rw [wB ndP hp hu (by show scope.names.lookup y≠_;rw [k];decide)] at q;exact q
 .exact e0.a7.fresh (T6 (x.above y c (SY h)))
 .unfold start;show _=N.length;rw [Sq,w4,List.length_replicate];omega
theorem F4 {CX:sm} {P:SN} {w:S_} {K:UT} {mg:Str->Option UU} {base:Ti} {k:Nat} {f:KE} {name qual:Str} {params:Arguments} {body:List Stmt} {scope:Uz} {dV kV doc pm cdv ct oc:UU} {an od:Option KE}
 {osl:Array (Option UU)} {N ps:List Str} {sp:Sp} (lk:K.lookup f=some ⟨oc,od,.func (Ts name qual params body scope dV kV doc pm an cdv ct),osl⟩) (hcd:UR K cdv qual=true) (S:al N ps scope)
 (len:∀vs H Q E,sp vs H Q E->vs.length=ps.length)
 (hbody:∀(A:Tl) (outer:List Env) (s:Se) (H:Hp) (vs:List V) (Q:VK) (E:XK),cE k (A.deeper (envOfC qual scope s.heap.objs.size f cdv))->sp vs H Q E->
  ∃t,uY (fj CX P w K mg base N qual scope f cdv A outer s H E) body t/\t {nx:=λ_ H'=>Q .bZ H',rt:=Q} (start N vs) H):
 gE P w K mg base CX (k+1) f (Ts name qual params body scope dV kV doc pm an cdv ct) ps sp:=by
 refine #[len,λA outer s H args us vs Q E hr e0 hb r hsp=>?_];have hl:=len _ _ _ _ hsp;have KX:K.In s.heap:=e0.mod.Kv.keeps λb o e=>(e0.bs b o e).1;have lim:s.heap.NoLimit:=e0.mod.nolimit.keeps λb o e=>(e0.bs b o e).1;have hkind:∀y∈ps.zip us,scope.names.lookup y.1=some .local\/(scope.names.lookup y.1=some .cell/\((cellsFrom (s.heap.objs.size+1) scope.names []).lookup y.1).isSome=true):=λ⟨n,v⟩ hy=>by
  rcases S.par n (List.of_mem_zip hy).1 with q|q
  .exact .inl q
  .exact .inr #[q,PySem.W.cellsFrom_some _ _ _ (.inl q)]
 refine codeAny_call_function hr.depth (KX _ _ lk) rfl S.co S.gen rfl (PySem.W.codeRec_of KX hcd) (hb _ _ _ _ ?_);refine wpAny_newFunctionEnv_cells S.kind hkind λenv he s1 x=>?_;subst he;refine #[lim.keeps x.toInCall.keep,codeAny_func ?_];obtain ⟨t,ht,hq⟩:=hbody A outer s H vs Q E (hr.deeper _) hsp;have I:Inv (fj CX P w K mg base N qual scope f cdv A outer s H E) [] (start N vs) H s1:=EE S hr.hd e0 hl r x;refine TJ (ht [] s1 (start N vs) H _ I hq) (λfl s' hs=>?_) λe s' hs=>hs;have fin:∀{σ':St} {H':Hp} {v:V} {u:UU},Inv (fj CX P w K mg base N qual scope f cdv A outer s H E) [] σ' H' s'->RelV v u->Q v H'->CE outer P w H s Q u s':=
  λ{σ' H' v u} J rv q=>#[v,H',J.os,J.bare,J.base,J.a7,rv,q]
 cases fl with
 |ret u=>obtain ⟨v,σ',H',J,rv,q⟩:=hs;exact fin J rv q
 |next=>obtain ⟨σ',H',J,q⟩:=hs;exact fin (v:=V.bZ) (u:=Uy) J rfl q
 |brk=>obtain ⟨_,_,_,q⟩:=hs;exact TD q
 |cont=>obtain ⟨_,_,_,q⟩:=hs;exact TD q
end L2
namespace L2
open PySem PySem.Spec PyProof.Rows
section
variable {X:Cx} {x:Str} {p pos:Pos} {e:Expr} {es:List Expr} {t:TA} {id T:String} {r:List V->Hp->VK->Prop}
noncomputable def Pz (r:List V->Hp->VK->Prop) (t:TA):TE:=λσ H Q=>t σ H λvs H1=>r vs H1 Q
theorem aJ (hc:eR X (.builtin id) r) (hg:Gl X x) (hm:X.mg x=none) (hv:bootBuiltins x=some (.builtin id)) (ha:PA X (e::es) t) (hn:x≠ "__name__" :=by decide) (hdb:(x==("__debug__" :Str))=false:=by decide)
 (he:starEach (e::es) X.env=(false,eval e X.env)::starEach es X.env:=by rfl) (hpl:(backTo pos (starEach es X.env)).any (·.1)=false:=by rfl):PE X (.Call (.Name x p) (e::es) [] pos) (Pz r t):=by
 intro pins s σ H Q I h;refine Uv (qb I hg hm hv ?_ hn hdb);exact PyProof.Rows.callWith_builtin1 (ci (ha pos pins s σ H _ I h) λus s1 #[vs,H1,I1,r1,q1]=>hc pins s1 σ H1 vs us Q I1 r1 q1) he hpl
theorem ik (hc:eR X (.type T) r) (hg:Gl X x) (hm:X.mg x=none) (hv:bootBuiltins x=some (.type T)) (ha:PA X (e::es) t) (hn:x≠ "__name__" :=by decide) (hdb:(x==("__debug__" :Str))=false:=by decide)
 (he:starEach (e::es) X.env=(false,eval e X.env)::starEach es X.env:=by rfl) (hpl:(backTo pos (starEach es X.env)).any (·.1)=false:=by rfl):PE X (.Call (.Name x p) (e::es) [] pos) (Pz r t):=by
 intro pins s σ H Q I h;refine Uv (qb I hg hm hv ?_ hn hdb);exact Ul (ci (ha pos pins s σ H _ I h) λus s1 #[vs,H1,I1,r1,q1]=>hc pins s1 σ H1 vs us Q I1 r1 q1) he hpl
end
end L2
namespace HT
open PySem PyProof.Rows
section
open PySem.SeqAt
open PySem.AutoSeq1 (wpAny_loadPart')
open PySem.MeetsSeq PySem.MeetsSeq2 PySem.MeetsSeq3
end
section
variable {prog:SN} {w:S_} {A:Tl} {E:UU->Se->Prop} {s:Se}
noncomputable def gr (n d:Nat):Option Int->Nat
 |none=>d
 |some v=>if v<0 then (v+(n:Int)).toNat else min v.toNat n
theorem tu (n d:Nat):gr n d none=d:=rfl
theorem ss (n d k:Nat):gr n d (some (k:Int))=min k n:=by show (if (k:Int)<0 then ((k:Int)+(n:Int)).toNat else min (k:Int).toNat n)=min k n;rw [if_neg (by omega),So]
theorem F5 (n d:Nat) (hd:d<=n) (o:Option Int):gr n d o<=n:=by
 cases o with
 |none=>exact hd
 |some v=>
  show (if v<0 then (v+(n:Int)).toNat else min v.toNat n)<=n;by_cases hv:v<0
  .rw [if_pos hv];omega
  .rw [if_neg hv];exact Nat.min_le_right _ _
end
end HT
namespace L2
open PySem PySem.Spec PyProof.Rows
noncomputable abbrev TO:=St->Hp->(Option Int->Hp->Prop)->Prop
def PO (X:Cx) (e:Option Expr) (t:TO):Prop:=
 ∀(pins:List (KE×Obj)) (s:Se) (σ:St) (H:Hp) (Q:Option Int->Hp->Prop),Inv X pins σ H s->t σ H Q->
  wpAny (model X.prog X.w) X.A (evalPart e X.env) (λu s'=>∃o H',Inv X pins σ H' s'/\IsPart u o/\Q o H') X.xe s
noncomputable def xQ:TO:=λ_ H Q=>Q none H
noncomputable def F6 (t:TE):TO:=λσ H Q=>t σ H λx H1=>∃i,x= .int i/\Q (some i) H1
section
variable {X:Cx} {e:Expr} {te:TE} {lo hi:Option Expr} {tl th:TO} {pos p2:Pos}
theorem ib:PO X none xQ:=by intro pins s σ H Q I h;rw [evalPart_none];exact S6 #[none,H,I,.none,h]
theorem cr (h:PE X e te):PO X (some e) (F6 te):=by intro pins s σ H Q I hw;rw [evalPart_some];refine ci (h pins s σ H _ I hw) λu s1 zq=>?_;obtain ⟨x,H1,I1,r1,q1⟩:=zq;obtain ⟨i,rfl,q⟩:=q1;obtain ⟨t,rfl⟩:=r1;exact #[some i,H1,I1,.int i t,q]
def P4 (X:Cx) (r:V->Option Int->Option Int->Hp->VK->Prop):Prop:=
 ∀(pins:List (KE×Obj)) (s:Se) (σ:St) (H:Hp) (x:V) (v vl vu:UU) (lo hi:Option Int) (sl:KE) (Q:VK),Inv X pins σ H s->RelV x v->s.heap.IsSliceOf sl vl vu .none->IsPart vl lo->IsPart vu hi->r x lo hi H Q->
  ∃T id,typeLookup (.type T) "__getitem__" =pure (some (.builtin id))/\s.TypeIs v T/\wpAny (model X.prog X.w) X.A (getItem v (.ref sl)) (EP X pins σ Q) X.xe s
noncomputable def P5 (r:V->Option Int->Option Int->Hp->VK->Prop) (te:TE) (tl th:TO):TE:=λσ H Q=>te σ H λx H1=>tl σ H1 λl H2=>th σ H2 λu H3=>r x l u H3 Q
theorem cX {r:V->Option Int->Option Int->Hp->VK->Prop} (hr:P4 X r) (he:PE X e te) (hl:PO X lo tl) (hu:PO X hi th):PE X (.Subscript e (.Slice lo hi none p2) pos) (P5 r te tl th):=by intro pins s σ H Q I h;refine Subscript_ (ci (he pins s σ H _ I h) λv s1 zq=>?_);obtain ⟨x,H1,I1,r1,q1⟩:=zq;refine wpAny_Slice (ci (hl pins s1 σ H1 _ I1 q1) λvl s2 #[l,H2,I2,pl,q2]=>ci (hu pins s2 σ H2 _ I2 q2) λvu s3 zq=>?_);obtain ⟨u,H3,I3,pu,q3⟩:=zq;rw [evalPart_none];refine S6 ?_;have I4:Inv X pins σ H3 {s3 with heap:=s3.heap.push {cls:=.type "slice",data:=.fields [vl,vu,.none].toArray}}:=I3.kept (t':=s3.toks) λb ob q=>Sn _ q;obtain ⟨T,id,hT,ht,hg⟩:=hr pins {s3 with heap:=s3.heap.push {cls:=.type "slice",data:=.fields [vl,vu,.none].toArray}} σ H3 x v vl vu l u s3.heap.objs.size Q I4 r1 (Ti.IsSliceOf.new ..) pl pu q3;show wpAny (model X.prog X.w) X.A (subscriptTail e (.Slice lo hi none p2) v (.ref s3.heap.objs.size)) (EP X pins σ Q) X.xe {s3 with heap:=s3.heap.push {cls:=.type "slice",data:=.fields [vl,vu,.none].toArray}};exact tail_any (ops:=[.ref s3.heap.objs.size,v]) ht hT hg (by with_unfolding_all rfl)
noncomputable def fD (xs:List V) (lo hi:Option Int):List V:=(xs.drop (HT.gr xs.length 0 lo)).take (HT.gr xs.length xs.length hi - HT.gr xs.length 0 lo)
theorem z6 (xs:List V) (lo hi:Option Int):(fD xs lo hi).length<=xs.length:=by unfold fD;rw [S8,SQ];omega
end
end L2
namespace L2
open PySem PySem.Spec PyProof.Rows
noncomputable def Fs (n:Nat) (i:Int):Option Nat:=if 0<=i then (if i<n then some i.toNat else none) else if -(n:Int)<=i then some (i+n).toNat else none
noncomputable def Co {α:Type} (xs:List α) (i:Int):Option α:=(Fs xs.length i).bind λj=>xs[j]?
theorem DF {n:Nat} {i:Int} {j:Nat} (h:Fs n i=some j):seqIndex? i n=some j/\j<n/\ -(n:Int)<=i/\i<n:=by
 unfold Fs at h;by_cases h0:0<=i
 .rw [if_pos h0] at h;by_cases h1:i<n
  .rw [if_pos h1] at h;have e:i.toNat=j:=Sd h;exact #[by rw [seqIndex_of h0 h1,e],by omega,by omega,h1]
  .rw [if_neg h1] at h;cases h
 .rw [if_neg h0] at h;by_cases h1:-(n:Int)<=i
  .rw [if_pos h1] at h;have e:(i+n).toNat=j:=Sd h;exact #[by rw [seqIndex_neg (by omega) h1,e],by omega,h1,by omega]
  .rw [if_neg h1] at h;cases h
theorem DG {α:Type} {xs:List α} {i:Int} {v:α} (h:Co xs i=some v):∃j,seqIndex? i xs.length=some j/\xs[j]? =some v/\j<xs.length/\ -(xs.length:Int)<=i/\i<xs.length:=by
 unfold Co at h;cases e:Fs xs.length i with
 |none=>rw [e] at h;cases h
 |some j=>rw [e] at h;obtain ⟨h1,h2,h3,h4⟩:=DF e;exact #[j,h1,h,h2,h3,h4]
theorem su {α:Type} {xs:List α} {j:Nat} {v:α} (h:xs[j]? =some v):Co xs (j:Int)=some v:=by
 have hj:j<xs.length:=((Sl).mp h).1;have e:Fs xs.length (j:Int)=some j:=by unfold Fs;rw [if_pos (by omega),if_pos (by omega)];simp
 unfold Co;rw [e];exact h
def xR (b:Expr):Prop:=∀o i,subscripted b false o i=operate [o,i] (getItem o i)
def P6 (X:Cx) (r:R2):Prop:=
 ∀(value slice:Expr) (pins:List (KE×Obj)) (s:Se) (σ:St) (H:Hp) (x y:V) (v u:UU) (Q:VK),Inv X pins σ H s->RelV x v->RelV y u->r x y H Q->
  subscripted slice false v u=operate [v,u] (getItem v u)->wpAny (model X.prog X.w) X.A (subscriptTail value slice v u) (EP X pins σ Q) X.xe s
def BM (X:Cx) (id:String) (r:V->List V->Hp->VK->Prop):Prop:=
 ∀(pins:List (KE×Obj)) (s:Se) (σ:St) (H:Hp) (x:V) (xs:List V) (v:UU) (us:List UU) (Q:VK),Inv X pins σ H s->RelV x v->Vals xs us->r x xs H Q->
  wpAny (model X.prog X.w) X.A (call (.builtin id) (v::us)) (EP X pins σ Q) X.xe s
section
variable {X:Cx} {a b:Expr} {ta tb:TE} {pos:Pos}
theorem JU (hr:P6 X r) (ha:PE X a ta) (hb:PE X b tb) (hs:xR b):PE X (.Subscript a b pos) (Ih r ta tb):=by intro pins s σ H Q I h;exact Subscript_ (KN ha hb I h λv u s2 x y H2 I2 rx ry q=>hr a b pins s2 σ H2 x y v u Q I2 rx ry q (hs _ _))
noncomputable def F7 (K:UT):R2:=λx y H Q=>∃p xs i v,x= .ref p/\y= .int i/\cB K H p xs/\Co xs i=some v/\Q v H
noncomputable def Ir (K:UT):R2:=λx y H Q=>∃p xs i v,x= .ref p/\y= .int i/\ij K H p xs/\Co xs i=some v/\Q v H
theorem Iu:P6 X (F7 X.K):=by
 intro value slice pins s σ H x y v u Q I rx ry h hs;obtain ⟨p,xs,i,z,rfl,rfl,hq,he,q⟩:=h;cases rx;obtain ⟨t,rfl⟩:=ry;obtain ⟨its,r,pl,hz⟩:=I.list hq;obtain ⟨j,h1,h2,h3,h4,h5⟩:=DG he;obtain ⟨w,ew,rw'⟩:=r.get h2;have hl:=r.length;have hn:=s_;have fin:EP X pins σ Q w s:=#[z,H,I,rw',q];by_cases h0:0<=i
 .have hj:i.toNat=j:=by rw [seqIndex_of h0 h5] at h1;exact Sd h1
  exact item_listR pl.isList h0 (by omega) (by rw [hj];simpa using ew) fin hs
 .have hj:(i+(its.toArray.size:Int)).toNat=j:=by rw [seqIndex_neg (by omega) h4] at h1;rw [Sv,<-hl];exact Sd h1
  exact subscriptTail_builtinR (x:=w) pl.isList.typeIs slot_list_getitem.lookup
   (wpAny_getItem_list_neg (Q:=λr s'=>r=w/\EP X pins σ Q r s') pl.isList (by omega) (by rw [Sv]<;>omega) (by omega) (by rw [hj];simpa using ew) #[rfl,fin]) hs
theorem KS:P6 X (Ir X.K):=by
 intro value slice pins s σ H x y v u Q I rx ry h hs;obtain ⟨p,xs,i,z,rfl,rfl,hq,he,q⟩:=h;cases rx;obtain ⟨t,rfl⟩:=ry;obtain ⟨its,r,pl,hz⟩:=I.tuple hq;obtain ⟨j,h1,h2,h3,h4,h5⟩:=DG he;obtain ⟨w,ew,rw'⟩:=r.get h2;have hl:=r.length;have hn:=s_;have fin:EP X pins σ Q w s:=#[z,H,I,rw',q];exact subscriptTail_builtinR (x:=w) pl.typeIs slot_tuple_getitem.lookup
  (getItem_tuple (j:=j) (Q:=λr s'=>r=w/\EP X pins σ Q r s') pl (by omega) (by omega) (by rw [Sv,<-hl];exact h1) (by simpa using ew) #[rfl,fin]) hs
theorem Cp (its:List UU) (n j:Nat) (u:UU):TC (·.setIfInBounds j u) {cls:=.type "list",data:=.seq its.toArray n}={cls:=.type "list",data:=.seq (its.set j u).toArray n}:=by simp [TC]
theorem Inv.lst (I:Inv X pins σ H s) (h:H p=some (.lst xs)):
 ∃(its:List UU) (n:Nat),Vals xs its/\s.heap.get? p=some {cls:=.type "list",data:=.seq its.toArray n}/\xs.length<=sizeLine:=by
 obtain ⟨z,its,n,r,e⟩:=I.a7 p _ h;exact #[its,n,r,e,z]
theorem Inv.KU {pins:List (KE×Obj)} {σ:St} {H:Hp} {s:Se} {p:KE} {xs ys:List V} {its its':List UU} {n n':Nat} {f:Obj->Obj} (I:Inv X pins σ H s) (h:H p=some (.lst xs))
 (ho:s.heap.get? p=some {cls:=.type "list",data:=.seq its.toArray n}) (hf:f {cls:=.type "list",data:=.seq its.toArray n}={cls:=.type "list",data:=.seq its'.toArray n'}) (r:Vals ys its') (hz:ys.length<=sizeLine) (t:Nat):
 Inv X pins σ (upd H p (.lst ys)) {s with heap:=s.heap.update p f,toks:=t}:=by
 have e:(s.heap.update p f).get? p=some {cls:=.type "list",data:=.seq its'.toArray n'}:=by rw [Ti.get?_update_self f ho (by rw [hf]<;>rfl),hf]
 refine I.write (x:=p) (e:=p) (by rw [h];trivial) (.inl rfl) (λb u hb q=>(Ti.get?_update_other _ _ (Ne.symm hb)).trans q) #[_,e] ?_;exact #[hz,its',n',r,e]
noncomputable def JV:V->V->V->Hp->(Hp->Prop)->Prop:=λo i v H Q=>∃p xs k j,o= .ref p/\i= .int k/\H p=some (.lst xs)/\Fs xs.length k=some j/\Q (upd H p (.lst (xs.set j v)))
theorem set_list:Nl X JV:=by
 intro pins s σ H o i v ov iv u Q I ro ri rv h;obtain ⟨p,xs,k,j,rfl,rfl,hp,hj,q⟩:=h;cases ro;obtain ⟨t,rfl⟩:=ri;obtain ⟨its,n,r,ho,hz⟩:=I.lst hp;obtain ⟨h1,h2,h3,h4⟩:=DF hj;have hl:=r.length;have hn:=s_;have I':Inv X pins σ (upd H p (.lst (xs.set j v))) {s with heap:=s.heap.update p (TC (·.setIfInBounds j u))}:=
  I.KU hp ho (Cp its n j u) (r.set rv j) (by rw [UO];exact hz) s.toks
 by_cases h0:0<=k
 .have hk:k.toNat=j:=by rw [seqIndex_of h0 h4] at h1;exact Sd h1
  exact PySem.W.ki_setAt ho h0 (by omega) (by rw [Sv,<-hl];exact h4) (by rw [hk];exact #[_,I',q])
 .have hk:(k+(its.toArray.size:Int)).toNat=j:=by rw [seqIndex_neg (by omega) h3] at h1;rw [Sv,<-hl];exact Sd h1
  exact PySem.W.ki_setBack ho (by omega) (by rw [Sv,<-hl];exact h3) (by omega) (by rw [hk];exact #[_,I',q])
theorem xS (lo hi:Option Int) (n:Nat):(sliceBounds lo hi none n).1=((HT.gr n 0 lo:Nat):Int)/\(sliceBounds lo hi none n).2.1=((HT.gr n n hi:Nat):Int)/\(sliceBounds lo hi none n).2.2=1:=by
 refine #[?_,?_,rfl]
 .cases lo with
  |none=>simp [sliceBounds,HT.gr]
  |some i=>
   simp only [sliceBounds,HT.gr,Option.getD_none,show (1:Int)>0 by decide,if_true];by_cases h:i<0
   .simp only [h,if_true]<;>omega
   .simp only [h,if_false]<;>omega
 .cases hi with
  |none=>simp [sliceBounds,HT.gr]
  |some i=>
   simp only [sliceBounds,HT.gr,Option.getD_none,show (1:Int)>0 by decide,if_true];by_cases h:i<0
   .simp only [h,if_true]<;>omega
   .simp only [h,if_false]<;>omega
theorem vr (its:List UU) (lo hi:Option Int):slicePick its.toArray lo hi none=((its.drop (HT.gr its.length 0 lo)).take (HT.gr its.length its.length hi - HT.gr its.length 0 lo)).toArray:=by obtain ⟨h1,h2,h3⟩:=xS lo hi its.toArray.size;unfold slicePick;rw [h1,h2,h3];simp only [sliceRange_one,pick_run,Sv]<;>rfl
noncomputable def KW (K:UT):V->Option Int->Option Int->Hp->VK->Prop:=λx lo hi H Q=>∃a xs,x= .ref a/\cB K H a xs/\∀p,H p=none->Q (.ref p) (upd H p (.lst (fD xs lo hi)))
theorem ic:P4 X (KW X.K):=by intro pins s σ H x v vl vu lo hi sl Q I rx hs pl pu h;obtain ⟨a,xs,rfl,hx,q⟩:=h;cases rx;obtain ⟨its,r,ht,hz⟩:=I.list hx;have hlen:=r.length;refine #["list",_,slot_list_getitem.lookup,ht.isList.typeIs,?_];refine wpAny_getItem_list_slice ht.isList hs pl pu .none (by simp) ?_ (by rw [Sv]<;>omega);rw [vr,<-hlen];refine #[.ref s.heap.objs.size,_,I.laid (t':=s.toks) (o:=.lst (fD xs lo hi)) (λb ob q=>Sn _ q) (Sf _) ?_,rfl,q _ (I.a7.fresh (Sf _))];exact #[SA (z6 xs lo hi) hz,_,0,(r.drop (HT.gr xs.length 0 lo)).take (HT.gr xs.length xs.length hi - HT.gr xs.length 0 lo),SL _ rfl]
noncomputable def fV:V->Bool
 | .bZ=>true
 | .bl _=>true
 | .int _=>true
 | .str _=>true
 |_=>false
noncomputable def zm:V->V->Bool
 | .bZ,.bZ=>true
 | .bl a,.bl b=>a==b
 | .bl a,.int b=>(if a then 1 else 0)==b
 | .int a,.bl b=>a==(if b then 1 else 0)
 | .int a,.int b=>a==b
 | .str a,.str b=>a==b
 |_,_=>false
theorem KY (ry:RelV y u) (rx:RelV x v) (fy:fV y=true) (fx:fV x=true):SeqAt.EqAt A s u v (zm y x):=by
 cases y with
 |bZ=>
  cases ry;cases x with
  |bZ=>cases rx;exact SeqAt.EqAt.same _
  |bl b=>cases rx;exact SeqAt.EqAt.none_bool b
  |int b=>obtain ⟨t,rfl⟩:=rx;exact SeqAt.EqAt.none_int b t
  |str b=>obtain ⟨t,rfl⟩:=rx;exact SeqAt.EqAt.none_str b t
  |_=>exact absurd (show false=true from fx) SM
 |bl a=>
  cases ry;cases x with
  |bZ=>cases rx;exact SeqAt.EqAt.bool_none a
  |bl b=>cases rx;exact SeqAt.EqAt.bool_bool a b
  |int b=>obtain ⟨t,rfl⟩:=rx;exact SeqAt.EqAt.bool_int a b t
  |str b=>obtain ⟨t,rfl⟩:=rx;exact SeqAt.EqAt.bool_str a b t
  |_=>exact absurd (show false=true from fx) SM
 |int a=>
  obtain ⟨t',rfl⟩:=ry;cases x with
  |bZ=>cases rx;exact SeqAt.EqAt.int_none a t'
  |bl b=>cases rx;exact SeqAt.EqAt.int_bool a t' b
  |int b=>obtain ⟨t,rfl⟩:=rx;exact SeqAt.EqAt.int_int a t' b t
  |str b=>obtain ⟨t,rfl⟩:=rx;exact SeqAt.EqAt.int_str a t' b t
  |_=>exact absurd (show false=true from fx) SM
 |str a=>
  obtain ⟨t',rfl⟩:=ry;cases x with
  |bZ=>cases rx;exact SeqAt.EqAt.str_none a t'
  |bl b=>cases rx;exact SeqAt.EqAt.str_bool a t' b
  |int b=>obtain ⟨t,rfl⟩:=rx;exact SeqAt.EqAt.str_int a t' b t
  |str b=>obtain ⟨t,rfl⟩:=rx;exact SeqAt.EqAt.str_str a t' b t
  |_=>exact absurd (show false=true from fx) SM
 |_=>exact absurd (show false=true from fy) SM
noncomputable def z7 (x:V) (u:UU):Bool:=match u with
 | .none=>zm .bZ x
 | .bool b=>zm (.bl b) x
 | .int i _=>zm (.int i) x
 | .str z _=>zm (.str z) x
 |_=>false
theorem qf (r:RelV y u) (f:fV y=true):z7 x u=zm y x:=by
 cases y with
 |bZ=>cases r;rfl
 |bl b=>cases r;rfl
 |int i=>obtain ⟨t,rfl⟩:=r;rfl
 |str z=>obtain ⟨t,rfl⟩:=r;rfl
 |_=>exact absurd (show false=true from f) SM
theorem oJ:∀{xs:List V} {us:List UU},Vals xs us->xs.all fV=true->us.any (z7 x)=xs.any λy=>zm y x
 |_,_,.nil,_=>rfl
 |y::xs,u::us,.cons r t,f=>by rw [List.all_cons,S9] at f;rw [Uh,Uh,qf r f.1,oJ t f.2]
theorem iq (rx:RelV x v) (fx:fV x=true):∀{xs:List V} {us:List UU},Vals xs us->xs.all fV=true->∀u∈us,SeqAt.EqAt A s u v (z7 x u)
 |_,_,.nil,_=>λu hu=>by cases hu
 |y::xs,u::us,.cons r t,f=>λu' hu=>by
  rw [List.all_cons,S9] at f;rcases (Sg).mp hu with rfl|hu
  .rw [qf r f.1];exact KY r rx f.1 fx
  .exact iq rx fx t f.2 u' hu
noncomputable def Iv (x:V) (xs:List V):Bool:=xs.any λy=>zm y x
noncomputable def PB (K:UT) (neg:Bool):R2:=λx y H Q=>∃p xs,y= .ref p/\(cB K H p xs\/ij K H p xs)/\fV x=true/\xs.all fV=true/\Q (.bl (if neg then !Iv x xs else Iv x xs)) H
theorem EF:oI X (compareOp .In) (PB X.K false):=by
 intro pins s σ H x y v u Q I rx ry h;obtain ⟨p,xs,rfl,hq,fx,fs,q⟩:=h;cases ry;rcases hq with hq|hq
 .obtain ⟨its,r,pl,hz⟩:=I.list hq;refine SeqAt.in_listAt (z7 x) pl.isList (λw hw=>iq rx fx r fs w (by simpa using hw)) #[.bl _,H,I,rfl,?_];rw [show its.toArray.any (z7 x)=its.any (z7 x) by simp,oJ r fs];exact q
 .obtain ⟨its,r,pl,hz⟩:=I.tuple hq;refine SeqAt.in_tupleAt (z7 x) pl (λw hw=>iq rx fx r fs w (by simpa using hw)) #[.bl _,H,I,rfl,?_];rw [show its.toArray.any (z7 x)=its.any (z7 x) by simp,oJ r fs];exact q
theorem oK:oI X (compareOp .NotIn) (PB X.K true):=by
 intro pins s σ H x y v u Q I rx ry h;obtain ⟨p,xs,rfl,hq,fx,fs,q⟩:=h;cases ry;rcases hq with hq|hq
 .obtain ⟨its,r,pl,hz⟩:=I.list hq;refine SeqAt.notIn_listAt (z7 x) pl.isList (λw hw=>iq rx fx r fs w (by simpa using hw)) #[.bl _,H,I,rfl,?_];rw [show its.toArray.any (z7 x)=its.any (z7 x) by simp,oJ r fs];exact q
 .obtain ⟨its,r,pl,hz⟩:=I.tuple hq;refine SeqAt.notIn_tupleAt (z7 x) pl (λw hw=>iq rx fx r fs w (by simpa using hw)) #[.bl _,H,I,rfl,?_];rw [show its.toArray.any (z7 x)=its.any (z7 x) by simp,oJ r fs];exact q
theorem xT:eR X (.builtin "len") (λxs H Q=>∃p ys,xs=[.ref p]/\(cB X.K H p ys\/ij X.K H p ys)/\Q (.int ys.length) H):=by
 intro pins s σ H xs us Q I r h;obtain ⟨p,ys,rfl,hq,q⟩:=h;obtain ⟨u,rfl,rx⟩:=vals1 r;cases rx;have hn:=s_;rcases hq with hq|hq
 .obtain ⟨its,r',pl,hz⟩:=I.list hq;have hlen:=r'.length;exact Calls.call_len_list pl.isList (by simp only [Sv]<;>omega) #[.int ys.length,H,I.tok _,#[s.toks+1,by rw [Sv,hlen]],q]
 .obtain ⟨its,r',pl,hz⟩:=I.tuple hq;have hlen:=r'.length;exact len_tuple pl (by simp only [Sv]<;>omega) #[.int ys.length,H,I.tok _,#[s.toks+1,by rw [Sv,hlen]],q]
theorem xU:eR X (.builtin "len") (λxs H Q=>∃z,xs=[.str z]/\z.length<=sizeLine/\Q (.int z.length) H):=by intro pins s σ H xs us Q I r h;obtain ⟨z,rfl,hz,q⟩:=h;obtain ⟨u,rfl,t,rfl⟩:=vals1 r;have hn:=s_;exact len_str (by omega) #[.int z.length,H,I.tok _,#[_,rfl],q]
theorem xV:eR X (.type "list") (λxs H Q=>∃p ys,xs=[.ref p]/\(cB X.K H p ys\/ij X.K H p ys)/\∀l,H l=none->Q (.ref l) (upd H l (.lst ys))):=by
 intro pins s σ H xs us Q I r h;obtain ⟨p,ys,rfl,hq,q⟩:=h;obtain ⟨u,rfl,rx⟩:=vals1 r;cases rx;have fin:∀(its:List UU),Vals ys its->ys.length<=sizeLine->∀(h':Ti) (c':Nat),(∀b o',s.heap.get? b=some o'->h'.get? b=some o')->
  h'.get? s.heap.objs.size=some {cls:=.type "list",dict:=none,data:=.seq its.toArray c',slots:=#[]}->EP X pins σ Q (.ref s.heap.objs.size) {s with heap:=h'}:=λits r' hz h' c' kp e=>
  #[.ref s.heap.objs.size,_,I.laid (t':=s.toks) kp (Sf _) (show dE X.prog X.w _ h' _ (.lst ys) from #[hz,its,c',r',e]),rfl,q _ (I.a7.fresh (Sf _))]
 rcases hq with hq|hq
 .obtain ⟨its,r',pl,hz⟩:=I.list hq;have hlen:=r'.length;obtain ⟨o,ho,hc,n,hd⟩:=pl.isList;exact call_list_seq p (.inl rfl) ho hc hd (λh' c' kp e=>fin its r' hz h' c' kp e) (by simp only [Sv]<;>omega)
 .obtain ⟨its,r',pl,hz⟩:=I.tuple hq;have hlen:=r'.length;obtain ⟨o,ho,hc,n,hd⟩:=pl;exact call_list_seq p (.inr rfl) ho hc hd (λh' c' kp e=>fin its r' hz h' c' kp e) (by simp only [Sv]<;>omega)
def M7 (K:UT) (T:String) (x:V) (H:Hp):Prop:=match x with
 | .str _=>T= "str"
 | .int _=>T= "int"
 | .ref p=>(T= "list" /\∃xs,cB K H p xs)\/(T= "tuple" /\∃o,K.lookup p=some o/\o.cls= .type "tuple" /\o.dict=none)\/
  (T= "dict" /\((∃kvs,H p=some (.dK kvs))\/∃kvs,H p=some (.dT kvs)))\/(T= "set" /\∃S n,H p=some (.set S n))
 |_=>False
theorem F8 {T:String} (I:Inv X pins σ H s) (r:RelV x v) (ty:M7 X.K T x H):
 s.TypeIs v T/\∀a,v= .ref a->∃ob,s.heap.get? a=some ob/\ob.dict=none:=by
 cases x with
 |str z=>obtain ⟨t,rfl⟩:=r;cases (show T= "str" from ty);exact #[typeIs_str s z t,λ_ e=>nomatch e]
 |int i=>obtain ⟨t,rfl⟩:=r;cases (show T= "int" from ty);exact #[typeIs_int s i t,λ_ e=>nomatch e]
 |ref p=>
  cases r;rcases ty with ⟨rfl,xs,hq⟩|⟨rfl,o,hk,hc,hd⟩|⟨rfl,hk⟩|⟨rfl,S,n,hk⟩
  .obtain ⟨its,_,pl,_⟩:=I.list hq;refine #[pl.isList.typeIs,λa e=>?_];cases e;obtain ⟨o,n,e,c,hd,_⟩:=pl;exact #[o,e,hd]
  .refine #[#[o,I.sR p o hk,hc],λa e=>?_];cases e;exact #[o,I.sR _ o hk,hd]
  .have z:∃o,s.heap.get? p=some o/\o.ExactDict:=by
    rcases hk with ⟨kvs,hk⟩|⟨kvs,hk⟩
    .obtain ⟨_,_,_,_,o,_,_,e,ex,_⟩:=I.a7 p _ hk;exact #[o,e,ex]
    .obtain ⟨_,_,_,_,o,_,_,e,ex,_⟩:=I.a7 p _ hk;exact #[o,e,ex]
   obtain ⟨o,e,ex⟩:=z;refine #[#[o,e,ex.1],λa e2=>?_];cases e2;exact #[o,e,ex.2.1]
  .obtain ⟨o,_,_,_,e,ex,_⟩:=I.a7 p _ hk;refine #[#[o,e,ex.1],λa e2=>?_];cases e2;exact #[o,e,ex.2.1]
 |_=>exact TD ty
noncomputable def KZ (K:UT) (T:String) (r:V->List V->Hp->VK->Prop) (to:TE):TE:=λσ H Q=>to σ H λx H1=>M7 K T x H1/\r x [] H1 Q
noncomputable def PD (K:UT) (T:String) (r:V->List V->Hp->VK->Prop) (to:TE) (t:TA):TE:=λσ H Q=>to σ H λx H1=>M7 K T x H1/\t σ H1 λxs H2=>r x xs H2 Q
variable {o e:Expr} {es:List Expr} {to:TE} {t:TA} {name:Str} {apos cpos:Pos} {T id:String} {r:V->List V->Hp->VK->Prop}
theorem qg (pa:PlainAttrs T) (slot:Slot T name id) (hty:typeOf (.builtin id)=pure (.type "method_descriptor")) (hm:BM X id r) (ho:PE X o to)
 (hbase:attributeBase o name X.env (eval o X.env)=eval o X.env:=by rfl) (hline:(apos.endLine==cpos.line)=true:=by rfl):PE X (.Call (.Attribute o name apos) [] [] cpos) (KZ X.K T r to):=by
 intro pins s σ H Q I h;refine wpAny_Call_method0_late hbase hline (ci (ho pins s σ H _ I h) λv s1 zq=>?_);obtain ⟨x,H1,I1,r1,ty,q1⟩:=zq;obtain ⟨h1,h2⟩:=F8 I1 r1 ty;exact #[T,id,pa,slot,hty,h1,h2,Calls.callWith_builtin rfl (PySem.evalArgs_none (hm pins s1 σ H1 x [] v [] Q I1 r1 .nil q1))]
theorem dG (pa:PlainAttrs T) (slot:Slot T name id) (hty:typeOf (.builtin id)=pure (.type "method_descriptor")) (hm:BM X id r) (ho:PE X o to) (ha:PA X (e::es) t)
 (hbase:attributeBase o name X.env (eval o X.env)=eval o X.env:=by rfl)
 (hfew:((backTo cpos (starEach (e::es) X.env)).all (λx=>!x.1)&&(backToKw cpos (keywordEach [] X.env)).all (λx=>x.1.isSome)
  &&decide ((e::es).length+([]:List Keyword).length+(if ([]:List Keyword).isEmpty then 0 else 1)<30))=true:=by rfl)
 (hline:(apos.endLine==cpos.line)=true:=by rfl) (hs:starEach (e::es) X.env=(false,eval e X.env)::starEach es X.env:=by rfl) (hplain:(backTo cpos (starEach es X.env)).any (·.1)=false:=by rfl):
 PE X (.Call (.Attribute o name apos) (e::es) [] cpos) (PD X.K T r to t):=by
 intro pins s σ H Q I h;refine wpAny_Call_method_late hbase hfew hline rfl (ci (ho pins s σ H _ I h) λv s1 zq=>?_);obtain ⟨x,H1,I1,r1,ty,q1⟩:=zq;obtain ⟨h1,h2⟩:=F8 I1 r1 ty;refine #[T,id,pa,slot,hty,h1,h2,?_];have hA:=ha cpos pins s1 σ H1 _ I1 q1;rw [hs] at hA ⊢;refine Calls.callWith_builtin (by show (false||(backTo cpos (starEach es X.env)).any (·.1))=false;rw [hplain]<;>rfl) (Calls.evalArgs_plain ?_);exact ci hA λus s2 #[vs,H2,I2,r2,q2]=>hm pins s2 σ H2 x vs v us Q I2 r1 r2 q2
end
end L2
namespace L2
open PySem PySem.Spec PyProof.Rows
def PF (X:Cx) (id:String) (r:V->List V->Hp->VK->Prop):Prop:=
 ∀(pins:List (KE×Obj)) (s:Se) (σ:St) (H:Hp) (x:V) (xs:List V) (v:UU) (us:List UU) (Q:VK),Inv X pins σ H s->RelV x v->Vals xs us->r x xs H Q->
  wpAny (model X.prog X.w) X.A (call (.builtin id) (v::us)) (EP X pins σ Q) X.xe s
theorem Vals.one:∀{x:V} {us:List UU},Vals [x] us->∃u,us=[u]/\RelV x u
 |_,_,.cons r .nil=>#[_,rfl,r]
theorem Vals.zero:∀{us:List UU},Vals [] us->us=[]
 |_,.nil=>rfl
theorem Vals.dropLast (h:Vals xs us):Vals xs.dropLast us.dropLast:=by
 induction h with
 |nil=>exact .nil
 |cons r t ih=>
  cases t with
  |nil=>exact .nil
  |cons q t'=>exact .cons r ih
theorem Cq {α:Type} (l:List α):l.eraseIdx (l.length - 1)=l.dropLast:=by
 induction l with
 |nil=>rfl
 |cons a r ih=>
  cases r with
  |nil=>rfl
  |cons b r=>
   have e:(a::b::r).length - 1=((b::r).length - 1)+1:=by have h1:(a::b::r).length=r.length+2:=rfl;have h2:(b::r).length=r.length+1:=rfl;omega
   rw [e,List.eraseIdx_cons_succ,ih]
   all_goals rfl
section
variable {X:Cx} {pins:List (KE×Obj)} {σ:St} {H:Hp} {s:Se} {l b:KE} {xs ys zs:List V}
theorem Inv.Iw {its its':List UU} {n:Nat} {f:Array UU->Array UU} {t':Nat} (I:Inv X pins σ H s) (hH:H l=some (.lst xs))
 (e:s.heap.get? l=some {cls:=.type "list",data:=.seq its.toArray n}) (hf:f its.toArray=its'.toArray) (hv:Vals ys its') (hz:ys.length<=sizeLine):
 Inv X pins σ (upd H l (.lst ys)) {s with heap:=s.heap.update l (TC f),toks:=t'}:=by
 have q:=PySem.IsL.update e f;rw [hf] at q;refine I.write (x:=l) (e:=l) (by rw [hH];exact trivial) (.inl rfl) (λb' u hb hu=>(Ti.get?_update_other s.heap (TC f) (Ne.symm hb)).trans hu) #[_,q] ?_;exact #[hz,its',_,hv,q]
theorem Inv.P7 {t':Nat} (I:Inv X pins σ H s) (hv:Vals ys its) (hz:ys.length<=sizeLine):
 Inv X pins σ (upd H s.heap.objs.size (.lst ys)) {s with heap:=s.heap.push {cls:=.type "list",data:=.seq its.toArray},toks:=t'}:=
 I.laid (λ_ _ q=>Sn _ q) (Sf _) #[hz,its,0,hv,SL _ rfl]
theorem Inv.fresh (I:Inv X pins σ H s):H s.heap.objs.size=none:=I.a7.fresh (Sf _)
theorem Inv.Cr (I:Inv X pins σ H s) (hH:H l=some (.lst xs)):xs.length<=sizeLine/\∃(its:List UU) (n:Nat),Vals xs its/\xs.length=its.length/\s.heap.get? l=some {cls:=.type "list",data:=.seq its.toArray n}:=by obtain ⟨z,its,n,r,e⟩:=I.a7 l _ hH;exact #[z,its,n,r,r.length,e]
theorem z8 {n:Nat} (h:n<=sizeLine):T9 n=false:=by unfold T9;exact decide_eq_false (by omega)
end
section
variable {X:Cx}
noncomputable def oM:V->List V->Hp->VK->Prop:=λx vs H Q=>∃l xs y,x= .ref l/\vs=[y]/\H l=some (.lst xs)/\xs.length<sizeLine/\Q .bZ (upd H l (.lst (xs++[y])))
theorem bD:PF X "list.append" oM:=by intro pins s σ H x vs v us Q I rx rv h;obtain ⟨l,xs,y,rfl,rfl,hH,hz,q⟩:=h;cases rx;obtain ⟨u,rfl,ru⟩:=rv.one;obtain ⟨z,its,n,r,hl,e⟩:=I.Cr hH;refine call_meets SD #[_,e,rfl] F.entry_list_append (F.args_list_append_2 _ _) (PySem.list_append l its.toArray n u (by rw [Sv];omega)) #[e,?_];refine #[.bZ,_,I.Iw (its':=its++[u]) hH e (by simp) (r.append (.cons ru .nil)) ?_,rfl,q];rw [Sq,List.length_singleton];omega
noncomputable def xW:V->List V->Hp->VK->Prop:=λx vs H Q=>∃l b xs zs,x= .ref l/\vs=[.ref b]/\H l=some (.lst xs)/\H b=some (.lst zs)/\xs.length+zs.length<=sizeLine/\Q .bZ (upd H l (.lst (xs++zs)))
theorem wC:PF X "list.extend" xW:=by
 intro pins s σ H x vs v us Q I rx rv h;obtain ⟨l,b,xs,zs,rfl,rfl,hH,hB,hz,q⟩:=h;cases rx;obtain ⟨u,rfl,ru⟩:=rv.one;cases ru;obtain ⟨z,its,n,r,hl,e⟩:=I.Cr hH;obtain ⟨z2,its2,n2,r2,hl2,e2⟩:=I.Cr hB;have hsz:its.toArray.size+its2.toArray.size<=sizeLine:=by rw [Sv,Sv];omega
 have hlong:¬(!its.toArray.isEmpty&&T9 (its.toArray.size+its2.toArray.size))=true:=by rw [z8 hsz,Ub];exact SM
 refine call_meets T5 #[_,e,rfl] F.entry_list_extend (F.args_list_extend_2 _ _)
  (AutoSeq1.list_extend_list_list_0 l its.toArray n b its2.toArray n2 hlong (by rw [Sv];omega) (by omega)) #[e,e2,?_]
 refine #[.bZ,_,I.Iw (its':=its++its2) hH e (by simp) (r.append r2) ?_,rfl,q];rw [Sq];omega
noncomputable def K4:V->List V->Hp->VK->Prop:=λx vs H Q=>∃l xs y,x= .ref l/\vs=[]/\H l=some (.lst xs)/\xs[xs.length - 1]? =some y/\Q y (upd H l (.lst xs.dropLast))
theorem qh:PF X "list.pop" K4:=by
 intro pins s σ H x vs v us Q I rx rv h;obtain ⟨l,xs,y,rfl,rfl,hH,hy,q⟩:=h;cases rx;have hus:=rv.zero;subst hus;obtain ⟨z,its,n,r,hl,e⟩:=I.Cr hH;obtain ⟨u,hu,ru⟩:=r.get hy;have hy':its.toArray[its.toArray.size - 1]? =some u:=by show its.toArray[its.length - 1]? =some u;rw [<-Array.getElem?_toList,<-hl];exact hu
 refine call_meets T1 #[_,e,rfl] F.entry_list_pop (F.args_list_pop_1 _) (MeetsSeq.list_pop_last l its.toArray n u hy' (by rw [Sv];omega)) #[e,?_];refine #[y,_,I.Iw (its':=its.dropLast) hH e ?_ r.dropLast ?_,ru,q]
 .show its.toArray.eraseIdxIfInBounds (its.toArray.size - 1)=its.dropLast.toArray;rw [Sv,List.eraseIdxIfInBounds_toArray,Cq]
 .rw [List.length_dropLast];omega
noncomputable def K5:R2:=λx y H Q=>∃l b xs zs,x= .ref l/\y= .ref b/\H l=some (.lst xs)/\H b=some (.lst zs)/\xs.length+zs.length<=sizeLine/\∀p,H p=none->Q (.ref p) (upd H p (.lst (xs++zs)))
theorem xX:oI X (binaryOp .Add) K5:=by
 intro pins s σ H x y v u Q I rx ry h;obtain ⟨l,b,xs,zs,rfl,rfl,hH,hB,hz,q⟩:=h;cases rx;cases ry;obtain ⟨z,its,n,r,hl,e⟩:=I.Cr hH;obtain ⟨z2,its2,n2,r2,hl2,e2⟩:=I.Cr hB;refine PySem.P.add_list e e2 ?_ (by rw [Sv,Sv];omega);have ea:its.toArray++its2.toArray=(its++its2).toArray:=by simp
 rw [ea];exact #[.ref _,_,I.P7 (t':=s.toks) (r.append r2) (by rw [Sq];omega),rfl,q _ I.fresh]
end
section
variable {prog:SN} {w:S_} {A:Tl} {E:UU->Se->Prop} {s:Se}
set_option maxRecDepth 100000 in
end
section
variable {X:Cx}
end
end L2
namespace L2
open PySem PySem.Spec PyProof.Rows
theorem Vals.ints:∀{ns:List Int} {us:List UU},Vals (ns.map V.int) us->IntsAre us ns
 |[],us,h=>by rw [List.map_nil] at h;cases h;exact IntsAre.nil
 |n::ns,us,h=>by
  rw [S1] at h;cases h with
  |cons r t=>obtain ⟨k,rfl⟩:=r;exact IntsAre.cons n k (Vals.ints t)
theorem Vals.Ix (r:Vals [V.ref a] us):us=[Sy a]:=by
 cases r with
 |cons r t=>cases t;cases r;rfl
section
variable {prog:SN} {w:S_} {A:Tl} {E:UU->Se->Prop} {s:Se} {l:KE} {its:List UU} {ns:List Int} {Q:UU->Se->Prop}
theorem Iy (hh:A.handled=none) (hl:s.heap.IsList l its.toArray) (hi:IntsAre its ns) (hne:0<ns.length)
 (h:∀h' tk M t',(∀b o,s.heap.get? b=some o->h'.get? b=some o)->M∈ns->(∀a,a∈ns->a<=M)->Q (.int M t') {s with heap:=h',toks:=tk}):wpAny (model prog w) A (call (.builtin "max") [.ref l]) Q E s:=by
 obtain ⟨xs,e⟩:=hi.allInts.items;have hn:numsOf (intItems xs).toList=ns:=by rw [<-e];exact hi.numsOf
 rw [nums_intItems] at hn;subst hn;rw [e] at hl;have hsz:0<xs.size:=by simpa using hne
 refine PySem.max_intList hh hl hsz λv h' tk hv hk=>?_;obtain ⟨t,rfl⟩:=intItems_at hv;obtain ⟨h1,h2⟩:=argBest_gt (numAt xs) (xs.size - 1);refine h h' tk _ t hk ?_ λa ha=>?_
 .rw [numAt_eq];exact PySem.getD_mem (by rw [w4,Tw];omega)
 .obtain ⟨j,hj,rfl⟩:=mem_getD ha;rw [w4,Tw] at hj;rw [<-numAt_eq];exact h2 j (by omega)
end
section
variable {X:Cx}
noncomputable def P8 (K:UT):List V->Hp->VK->Prop:=λvs H Q=>∃(a:KE) (ns:List Int),vs=[V.ref a]/\cB K H a (ns.map V.int)/\0<ns.length/\∀m,m∈ns->(∀y,y∈ns->y<=m)->Q (.int m) H
theorem K6 (hc:X.calm=true):eR X (.builtin "max") (P8 X.K):=by intro pins s σ H vs us Q I r h;obtain ⟨a,ns,rfl,hs,hne,q⟩:=h;obtain ⟨its,rv,hl,_⟩:=I.list hs;rw [Vals.Ix r];exact Iy (I.ok.hd hc) hl.isList rv.ints hne λh' tk m t' hk h1 h2=>#[.int _,H,I.kept hk,#[_,rfl],q m h1 h2]
end
section
variable {X:Cx}
noncomputable def K7 (K:UT):V->List V->Hp->VK->Prop:=λx xs H Q=>∃(a:KE) (ys:List V) (y:V) (j:Nat) (z:V),x=V.ref a/\xs=[y]/\cB K H a ys/\fV y=true/\ys.all fV=true/\ys[j]? =some z/\zm z y=true/\
 (∀(m:Nat) (z':V),m<j->ys[m]? =some z'->zm z' y=false)/\Q (.int (j:Nat)) H
theorem sv {ys:List V} (f:ys.all fV=true) {j:Nat} {z:V} (h:ys[j]? =some z):fV z=true:=(Th).mp f z (SE h)
theorem F9:BM X "list.index" (K7 X.K):=by
 intro pins s σ H x xs v us Q I rx rxs h;obtain ⟨a,ys,y,j,z,rfl,rfl,hs,fy,fys,hz,hzj,hno,q⟩:=h;cases rx;cases rxs with
 |cons ry rt=>
  rename_i uy ut;cases rt;obtain ⟨its,rv,⟨⟨cls,dd,data,sl⟩,n,ho,hc,hdn,hd⟩,hlen⟩:=I.list hs;simp only at hc hd;subst hc hd;obtain ⟨u,hu,ru⟩:=rv.get hz;obtain ⟨hjl,hje⟩:=(Sl).mp hu;have hvl:=rv.length;have hj:j<its.toArray.size:=by simpa using hjl
  have hsl:=sizeLine_eq;refine call_meets PySem.F.slot_list_index #[_,ho,rfl] PySem.F.entry_list_index (PySem.F.args_list_index_2 _ _)
   (SeqAt.list_indexAt a its.toArray n dd sl uy (z7 y) j hj (by omega) ?_ ?_) #[ho,λu' hu'=>iq ry fy rv fys u' (by simpa using hu'),?_]
  .have e1:its.toArray[j]=u:=by simpa using hje
   rw [e1,qf ru (sv fys hz)];exact hzj
  .intro m hm hmj;have hml:m<its.length:=by simpa using hm
   have hmy:m<ys.length:=by omega
   have hy':ys[m]? =some ys[m]:=Ss hmy;obtain ⟨u2,hu2,ru2⟩:=rv.get hy';obtain ⟨_,hme⟩:=(Sl).mp hu2;have e1:its.toArray[m]=u2:=by simpa using hme
   rw [e1,qf ru2 (sv fys hy')];exact hno m _ hmj hy'
  .exact #[.int (j:Nat),H,I.tok _,#[_,rfl],q]
end
section
variable {X:Cx}
end
section
variable {X:Cx}
end
mutual
inductive Dp (K:UT) (H:Hp):V->PyData->Prop
 |bZ:Dp K H .bZ .none
 |bl (b:Bool):Dp K H (.bl b) (.bool b)
 |int (i:Int):Dp K H (.int i) (.int i)
 |str (x:Str):Dp K H (.str x) (.str x)
 |lst {a:KE} {xs:List V} {ds:List PyData}:cB K H a xs->tw K H xs ds->Dp K H (.ref a) (.list ds)
 |tup {a:KE} {xs:List V} {ds:List PyData}:ij K H a xs->tw K H xs ds->Dp K H (.ref a) (.tuple ds)
inductive tw (K:UT) (H:Hp):List V->List PyData->Prop
 |nil:tw K H [] []
 |cons {v:V} {vs:List V} {d:PyData} {ds:List PyData}:Dp K H v d->tw K H vs ds->tw K H (v::vs) (d::ds)
end
section
variable {X:Cx} {pins:List (KE×Obj)} {σ:St} {H:Hp} {s:Se}
mutual
theorem Dp.reads (I:Inv X pins σ H s):∀(d:PyData) (v:V) (u:UU),Dp X.K H v d->RelV v u->∃as,Reads s.heap u d as
 | .none,_,_,h,r=>by cases h;cases r;exact #[_,Reads.none]
 | .bool b,_,_,h,r=>by cases h;cases r;exact #[_,Reads.bool b]
 | .int i,_,_,h,r=>by cases h;obtain ⟨t,rfl⟩:=r;exact #[_,Reads.int i t]
 | .str x,_,_,h,r=>by cases h;obtain ⟨t,rfl⟩:=r;exact #[_,Reads.str x t]
 | .list ds,_,_,h,r=>by
   cases h with
   |lst hs ha=>cases r;obtain ⟨its,rv,⟨o,n,ho,hc,_,hd⟩,_⟩:=I.list hs;obtain ⟨as,hr⟩:=Dp.readsAll I ds _ its ha rv;exact #[_,Reads.list ho hc hd hr]
 | .tuple ds,_,_,h,r=>by
   cases h with
   |tup hs ha=>cases r;obtain ⟨its,rv,⟨o,ho,hc,n,hd⟩,_⟩:=I.tuple hs;obtain ⟨as,hr⟩:=Dp.readsAll I ds _ its ha rv;exact #[_,Reads.tuple ho hc hd hr]
 | .dict _,_,_,h,_=>by cases h
theorem Dp.readsAll (I:Inv X pins σ H s):∀(ds:List PyData) (vs:List V) (us:List UU),tw X.K H vs ds->Vals vs us->∃as,ReadsAll s.heap us ds as
 |[],_,_,h,r=>by cases h;cases r;exact #[_,ReadsAll.nil]
 |d::ds,_,_,h,r=>by
  cases h with
  |cons h1 h2=>
   cases r with
   |cons r1 r2=>obtain ⟨as,q1⟩:=Dp.reads I d _ _ h1 r1;obtain ⟨bs,q2⟩:=Dp.readsAll I ds _ _ h2 r2;exact #[_,ReadsAll.cons q1 q2]
end
end
section
variable {X:Cx}
noncomputable def Nu (K:UT):R2:=λx y H Q=>∃d e,Dp K H x d/\Dp K H y e/\SeqAt.shaped d=true/\SeqAt.shaped e=true/\Q (.bl (PyData.eqv d e)) H
theorem K8 (hu:X.A.units+64<cLine):oI X (compareOp .Eq) (Nu X.K):=by intro pins s σ H x y v u Q I rx ry h;obtain ⟨d,e,hd,he,sd,se,q⟩:=h;obtain ⟨as,r1⟩:=Dp.reads I d x v hd rx;obtain ⟨bs,r2⟩:=Dp.reads I e y u he ry;exact SeqAt.compareEq_shaped r1 r2 sd se hu #[.bl _,H,I,rfl,q]
end
end L2
namespace L2
open PySem PySem.Spec PyProof.Rows
noncomputable abbrev F_ (h:Ti) (c:KE) (v:Option UU):Prop:=h.IsCell c v
noncomputable def P9 (scope sc:Uz):Uz:=
 {scope with names:=scope.names.map λ(n,k)=>if (k== .free&&sc.kind== .function&&sc.names.lookup n==some .cell) then (n,.cell) else (n,k)}
noncomputable def cY (cells:List (Str×KE)):List (Str×Ue)->List (Str×KE)->List (Str×KE)
 |[],acc=>acc
 |(n,k)::r,acc=>if k== .free then cY cells r ((n,(cells.lookup n).getD 0)::acc) else cY cells r acc
theorem oN (env:Env) (f:Str×Ue->List (Str×KE)->Sem (ForInStep (List (Str×KE))))
 (hf:∀n k c,f (n,k) c=if k== .free then (do let a<-cellOf env n;pure (.yield ((n,a)::c))) else pure (.yield c)):
 ∀(names:List (Str×Ue)) (acc:List (Str×KE)),(∀y∈names,y.2= .free->∃c,env.cells.lookup y.1=some c)->forIn names acc f=pure (cY env.cells names acc)
 |[],acc,_=>by rw [List.forIn_nil];rfl
 |(n,k)::r,acc,h=>by
  rw [List.forIn_cons,hf];have ih:=λacc=>oN env f hf r acc λy hy=>h y (Sh _ hy);unfold cY;by_cases hk:(k==UE)=true
  .rw [if_pos hk,if_pos hk];obtain ⟨c,hc⟩:=h (n,k) Sk (by simpa using hk);have e:cellOf env n=pure c:=by unfold cellOf;rw [hc]
   rw [e];have e2:(env.cells.lookup n).getD 0=c:=by rw [hc];rfl
   rw [e2];exact ih _
  .rw [if_neg hk,if_neg hk];exact ih _
theorem Cs (h:∀y∈scope.names,y.2= .free->∃c,env.cells.lookup y.1=some c):closureFor scope env=pure (cY env.cells scope.names []):=by simp only [closureFor];rw [oN env _ (λn k c=>rfl) scope.names [] h];rfl
theorem mem_lookup {α:Type}:∀{l:List (Str×α)} {n:Str} {c:α},(n,c)∈l->∃c',l.lookup n=some c'
 |(k,v)::r,n,c,h=>by
  rw [Tn];cases hb:n==k with
  |true=>exact #[_,rfl]
  |false=>
   rcases (Sg).mp h with e|h
   .cases e;simp at hb
   .exact mem_lookup h
theorem iR:∀{names:List (Str×Ue)} {acc:List (Str×KE)} {n:Str} {c:KE},(n,c)∈cY cells names acc->(n,c)∈acc\/((n,.free)∈names/\c=(cells.lookup n).getD 0)
 |[],_,_,_,h=>.inl h
 |(m,k)::r,acc,n,c,h=>by
  unfold cY at h;split at h
  .rename_i hk;have hk:k= .free:=by simpa using hk
   rcases iR h with h|⟨h1,h2⟩
   .rcases (Sg).mp h with e|h
    .cases e;exact .inr #[hk▸Sk,rfl]
    .exact .inl h
   .exact .inr #[Sh _ h1,h2]
  .rcases iR h with h|⟨h1,h2⟩
   .exact .inl h
   .exact .inr #[Sh _ h1,h2]
theorem lz:∀{names:List (Str×Ue)} {acc:List (Str×KE)} {p:Str×KE},p∈acc->p∈cY cells names acc
 |[],_,_,h=>h
 |(m,k)::r,acc,p,h=>by
  unfold cY;split
  .exact lz (Sh _ h)
  .exact lz h
theorem lA:∀{names:List (Str×Ue)} {acc:List (Str×KE)} {n:Str},(n,.free)∈names->(n,(cells.lookup n).getD 0)∈cY cells names acc
 |(m,k)::r,acc,n,h=>by
  unfold cY;rcases (Sg).mp h with e|h
  .cases e;exact lz Sk
  .split
   .exact lA h
   .exact lA h
theorem jJ:∀{names:List (Str×Ue)} {h:Ti} {acc:List (Str×KE)} {x:Str} {c:KE},(x,c)∈cellsFrom h.objs.size names acc->
 (x,c)∈acc\/((x,.cell)∈names/\h.objs.size<=c/\F_ (pushCells h names) c none)
 |[],_,_,_,_,h=>.inl h
 |(n,k)::r,h,acc,x,c,hm=>by
  unfold cellsFrom at hm;unfold pushCells;split at hm
  .rename_i hk;rw [if_pos hk];have hk:k= .cell:=by simpa using hk
   rw [<-TQ h {cls:=.type "cell",data:=.cell none}] at hm;rcases jJ hm with hm|⟨h1,h2,h3⟩
   .rcases (Sg).mp hm with e|hm
    .cases e;exact .inr #[hk▸Sk,Sf _,_,pushCells_keeps r _ _ _ (SL _ rfl),rfl]
    .exact .inl hm
   .rw [TQ] at h2;exact .inr #[Sh _ h1,Nat.le_of_succ_le h2,h3]
  .rename_i hk;rw [if_neg hk];rcases jJ hm with hm|⟨h1,h2,h3⟩
   .exact .inl hm
   .exact .inr #[Sh _ h1,h2,h3]
theorem mC:∀{names:List (Str×Ue)} {n:Nat} {acc:List (Str×KE)} {p:Str×KE},p∈acc->p∈cellsFrom n names acc
 |[],_,_,_,h=>h
 |(m,k)::r,n,acc,p,h=>by
  unfold cellsFrom;split
  .exact mC (Sh _ h)
  .exact mC h
theorem qi:∀{names:List (Str×Ue)} {n:Nat} {acc:List (Str×KE)} {x:Str},(x,.cell)∈names->∃c,(x,c)∈cellsFrom n names acc
 |(m,k)::r,n,acc,x,h=>by
  unfold cellsFrom;rcases (Sg).mp h with e|h
  .cases e;exact #[n,mC Sk]
  .split
   .exact qi h
   .exact qi h
theorem qj:∀{names:List (Str×Ue)} {h:Ti} {acc:List (Str×KE)} {x y:Str} {c:KE},(∀p∈acc,p.2<h.objs.size)->(∀x y c,(x,c)∈acc->(y,c)∈acc->x=y)->
 (x,c)∈cellsFrom h.objs.size names acc->(y,c)∈cellsFrom h.objs.size names acc->x=y
 |[],_,_,_,_,_,_,hi,h1,h2=>hi _ _ _ h1 h2
 |(n,k)::r,h,acc,x,y,c,hl,hi,h1,h2=>by
  unfold cellsFrom at h1 h2;split at h1
  .rename_i hk;rw [if_pos hk] at h2;rw [<-TQ h {cls:=.type "cell",data:=.cell none}] at h1 h2;refine qj (h:=h.push _) (λp hp=>?_) (λx y c a b=>?_) h1 h2
   .rw [TQ];rcases (Sg).mp hp with rfl|hp
    .exact UH _
    .exact Nat.lt_succ_of_lt (hl p hp)
   .rcases (Sg).mp a with e|a<;>rcases (Sg).mp b with e'|b
    .cases e;cases e';rfl
    .cases (e);exact absurd (hl _ b) (Tr _)
    .cases (e');exact absurd (hl _ a) (Tr _)
    .exact hi _ _ _ a b
  .rename_i hk;rw [if_neg hk] at h2;exact qj hl hi h1 h2
theorem z9 {M:Model} {A:Tl} {E:UU->Se->Prop} {s:Se} {scope:Uz} {globals:KE} {closure:List (Str×KE)} {qual:Str} {func:Option KE} {code:UU} {around:Env} {builtins:KE} {Q:Env->Se->Prop}
 (h:Q (newEnv scope s.heap.objs.size globals (cellsFrom (s.heap.objs.size+1) scope.names closure) qual func code (some around) builtins)
  {s with heap:=pushCells (s.heap.push {cls:=.type "dict",data:=.dict #[]}) scope.names}):
 wpAny M A (newFunctionEnv scope globals closure [] qual func code (some around) builtins) Q E s:=by
 simp only [newFunctionEnv,Option.isSome_some,if_true];refine Su (wpAny_alloc ?_);refine Su (wpAny_layCells _ (λn k c=>rfl) scope.names closure _ _ ?_);rw [show ({s with heap:=s.heap.push {cls:=.type "dict",data:=.dict #[]}}:Se).heap.objs.size=s.heap.objs.size+1 from TQ ..];rw [List.forIn_nil];exact Su (S6 (S6 h))
theorem lB {sc:Uz}:∀{names:List (Str×Ue)} {x:Str} {k:Ue},
 (names.map λ(n,k)=>if (k==UE&&sc.kind== .function&&sc.names.lookup n==some .cell) then (n,Ue.cell) else (n,k)).lookup x=some k->
 ∃k',names.lookup x=some k'/\(k=k'\/(k'= .free/\k= .cell))
 |[],_,_,h=>by simp at h
 |(n,k₀)::r,x,k,h=>by
  have ih:=@lB sc r x k;have h':UB x ((if (k₀==UE&&sc.kind== .function&&sc.names.lookup n==some .cell)=true then (n,Ue.cell) else (n,k₀))::(r.map _))=some k:=h;cases hx:x==n with
  |true=>
   simp only [Tn,hx];by_cases hc:(k₀==UE&&sc.kind== .function&&sc.names.lookup n==some .cell)=true
   .rw [if_pos hc] at h';simp only [Tn,hx] at h';cases h';simp only [S9,beq_iff_eq] at hc;exact #[k₀,rfl,.inr #[hc.1.1,rfl]]
   .rw [if_neg hc] at h';simp only [Tn,hx] at h';cases h';exact #[_,rfl,.inl rfl]
  |false=>
   simp only [Tn,hx];by_cases hc:(k₀==UE&&sc.kind== .function&&sc.names.lookup n==some .cell)=true
   .rw [if_pos hc] at h';simp only [Tn,hx] at h';exact ih h'
   .rw [if_neg hc] at h';simp only [Tn,hx] at h';exact ih h'
structure ni (N:List Str) (sc scope:Uz) (own:List (Str×Nat)):Prop where
 kind:scope.kind= .function
 uniq:∀y∈scope.names,scope.names.lookup y.1=some y.2
 ix:∀p∈own,N[p.2]? =some p.1
 free:∀y∈scope.names,y.2= .free->sc.names.lookup y.1=some .cell\/sc.names.lookup y.1=some .free
 own:∀y∈scope.names,y.2= .local\/y.2= .cell->y.1∈own.map (·.1)\/y.1∉N
noncomputable def wipe (σ:St):List Nat->St
 |[]=>σ
 |v::vs=>(wipe σ vs).set v none
theorem lC (σ:St):∀vs:List Nat,(wipe σ vs).length=σ.length
 |[]=>rfl
 |v::vs=>by unfold wipe;rw [UO,lC σ vs]
theorem qk {i:Nat}:∀{vs:List Nat},(wipe σ vs)[i]? =some (some x)->σ[i]? =some (some x)/\i∉vs
 |[],h=>#[h,by simp]
 |v::vs,h=>by
  unfold wipe at h;by_cases hi:v=i
  .subst hi;by_cases hv:v<(wipe σ vs).length
   .rw [List.getElem?_set_self hv] at h;cases h
   .rw [List.getElem?_eq_none (by simpa using hv)] at h;cases h
  .rw [List.getElem?_set_ne hi] at h;obtain ⟨h1,h2⟩:=qk h;exact #[h1,by simp only [Sg,not_or];exact #[λe=>hi e.symm,h2]]
noncomputable abbrev Cx.PJ (X:Cx) (s:Se) (H:Hp) (scope:Uz) (cenv:Env) (fp:List KE):Cx:={X with sr:=s,M3:=H,env:=cenv,outer:=X.stack,ex:=fp,fn:=λx=>scope.names.lookup x==some .cell,pn:=[],xe:=λ_ _=>False}
section
variable {X:Cx} {pins:List (KE×Obj)} {σ:St} {H:Hp} {s:Se}
theorem z_ {scope:Uz} {own:List (Str×Nat)} {fp:List KE} (I:Inv X pins σ H s) (ok:ni X.N X.env.scope scope own) (hN:X.N.Nodup) (hfp:∀b∈fp,ke X pins H b/\b<s.heap.objs.size):
 Inv (X.PJ s H scope (compEnvC scope (cellsFrom (s.heap.objs.size+1) scope.names (cY X.env.cells scope.names [])) s.heap.objs.size X.env) fp) [] (wipe σ (own.map (·.2))) H {s with heap:=pushCells (s.heap.push {cls:=.type "dict",data:=.dict #[]}) scope.names}:=by
 have hfree:∀y∈scope.names,y.2= .free->∃c,X.env.cells.lookup y.1=some c:=λy hy e=>by
  rcases ok.free y hy e with k|k
  .exact I.ok.has _ (.inl k)
  .exact I.ok.has _ (.inr k)
 generalize hcenv:compEnvC scope (cellsFrom (s.heap.objs.size+1) scope.names (cY X.env.cells scope.names [])) s.heap.objs.size X.env=cenv;have kp:∀b o,s.heap.get? b=some o->(pushCells (s.heap.push {cls:=.type "dict",data:=.dict #[]}) scope.names).get? b=some o:=λb o e=>pushCells_keeps _ _ _ _ (Sn _ e);have hL:cenv.locals=s.heap.objs.size:=by rw [<-hcenv];rfl
 have hcl:cenv.cells=cellsFrom (s.heap.objs.size+1) scope.names (cY X.env.cells scope.names []):=by rw [<-hcenv];rfl
 have hsc:cenv.scope=P9 scope X.env.scope:=by rw [<-hcenv];rfl
 rw [<-TQ s.heap {cls:=.type "dict",data:=.dict #[]}] at hcl;have cm:∀{y c},(y,c)∈cY X.env.cells scope.names []->X.env.cells.lookup y=some c/\c<s.heap.objs.size:=λ{y c} hm=>by
  rcases iR hm with hm|⟨h1,rfl⟩
  .cases hm
  .obtain ⟨c,hc⟩:=hfree _ h1 rfl;rw [hc];obtain ⟨w,z⟩:=I.cell _ _ hc;exact #[rfl,z.lt]
 have mem:∀{y c},cenv.cells.lookup y=some c->(X.env.cells.lookup y=some c/\c<s.heap.objs.size)\/(s.heap.objs.size+1<=c/\F_ (pushCells (s.heap.push {cls:=.type "dict",data:=.dict #[]}) scope.names) c none):=λ{y c} e=>by
  rw [hcl] at e;rcases jJ (SY e) with hm|⟨_,h2,h3⟩
  .exact .inl (cm hm)
  .rw [TQ] at h2;exact .inr #[h2,h3]
 have look:∀{y},scope.names.lookup y=some .free->∃c,cenv.cells.lookup y=some c/\X.env.cells.lookup y=some c:=λ{y} hl=>by
  have hy:(y,UE)∈scope.names:=SY hl;obtain ⟨c',e'⟩:=mem_lookup (mC (names:=scope.names) (n:=(s.heap.push {cls:=.type "dict",data:=.dict #[]}).objs.size) (lA (cells:=X.env.cells) (acc:=[]) hy));rw [<-hcl] at e';refine #[c',e',?_];rw [hcl] at e';rcases jJ (SY e') with hm|⟨h1,_,_⟩
  .exact (cm hm).1
  .have:=ok.uniq _ h1;rw [hl] at this;cases this
 have okB:(X.PJ s H scope cenv fp).Ok:=by
  refine #[I.ok.mod,by show cenv.scope.kind=_;rw [hsc];exact ok.kind,by show cenv.globals=_;rw [<-hcenv];exact I.ok.glob,by show cenv.builtins=_;rw [<-hcenv];exact I.ok.blt,by show s.heap.objs.size<=cenv.locals;rw [hL];exact Sf _,
   λy z c e1 e2=>?_,λy hy=>?_,λy c z e=>?_,I.ok.hd,I.ok.frames,.inl rfl,λb hb=>#[?_,λy c e z=>?_],I.bs,SA I.ok.Es I.sz,λb o e hb=>?_,λb hb z=>?_,I.stack,I.my]
  .have e1:cenv.cells.lookup y=some c:=e1;have e2:cenv.cells.lookup z=some c:=e2;rw [hcl] at e1 e2;refine qj (λp hp=>?_) (λy z c a b=>I.ok.inj y z c (cm a).1 (cm b).1) (SY e1) (SY e2);rw [TQ];exact Nat.lt_succ_of_lt (cm (y:=p.1) (c:=p.2) hp).2
  .show∃c,cenv.cells.lookup y=some c;have key:∀k,cenv.kindOf y=some k->(k= .cell\/k= .free)->∃c,cenv.cells.lookup y=some c:=λk hk hk'=>by
    unfold Env.kindOf at hk;rw [hsc] at hk;obtain ⟨k',e,r⟩:=lB hk;have:k'= .cell\/k'= .free:=by
     rcases r with rfl|⟨rfl,_⟩
     .exact hk'
     .exact .inr rfl
    rcases this with rfl|rfl
    .obtain ⟨c,hm⟩:=qi (n:=(s.heap.push {cls:=.type "dict",data:=.dict #[]}).objs.size) (acc:=cY X.env.cells scope.names []) (SY e);obtain ⟨c',e'⟩:=mem_lookup hm;exact #[c',by rw [hcl];exact e']
    .obtain ⟨c,h1,_⟩:=look e;exact #[c,h1]
   rcases hy with hy|hy
   .exact key _ hy (.inl rfl)
   .exact key _ hy (.inr rfl)
  .have z:(scope.names.lookup y==some Ue.cell)=true:=z;have z:scope.names.lookup y=some .cell:=by simpa using z
   have e:cenv.cells.lookup y=some c:=e;rw [hcl] at e;rcases jJ (SY e) with hm|⟨_,h2,_⟩
   .rcases iR hm with hm|⟨h1,_⟩
    .cases hm
    .have q:=ok.uniq _ h1;rw [z] at q;cases q
   .rw [TQ] at h2;exact Nat.le_of_succ_le h2
  .show b≠cenv.locals;rw [hL];exact Tu (hfp b hb).2
  .have e:cenv.cells.lookup y=some c:=e;rcases mem e with ⟨h1,_⟩|⟨h1,_⟩
   .exact (hfp b hb).1.2.2.2.2.1 y c h1 z
   .have h2:s.heap.objs.size+1<=b:=by rw [<-z];exact h1
    exact absurd (SS (hfp b hb).2 (Nat.le_of_succ_le h2)) (Tr _)
  .rcases (hfp b hb).1.2.2.2.1 with z|z
   .exact I.ok.B_ b o e z
   .exact absurd (SS (SK e) (SA I.ok.Es z)) (Tr _)
  .rcases (Sg).mp (I.sT b z) with z|z
   .exact (hfp b hb).1.2.1 z
   .exact (hfp b hb).1.2.2.1 z
 refine #[okB,rfl,I.bare,Un.kept kp,#[λ_=>none,?_,λi y av e1 e2 e3=>?_],λy c e=>?_,?_,λy c e=>?_,λp hp=>?_,I.a7.kept kp,by rw [lC];exact I.len]
 .show Ti.Ns _ cenv.locals _;rw [hL];exact Ti.Ns.keeps (Ti.Ns.new ..) λb o e=>pushCells_keeps _ _ _ _ e
 .obtain ⟨e2,hne⟩:=qk e2;have hfr:scope.names.lookup y=some .free/\(cenv.kindOf y=some .cell\/cenv.kindOf y=some .free):=by
   have key:∀k,cenv.scope.names.lookup y=some k->k= .local\/k= .cell\/k= .free->scope.names.lookup y=some .free/\(cenv.kindOf y=some .cell\/cenv.kindOf y=some .free):=λk hk hk'=>by
    have hk0:=hk;rw [hsc] at hk;obtain ⟨k',e,r⟩:=lB hk;have no:¬(k'= .local\/k'= .cell):=λhh=>by
     rcases ok.own _ (SY e) hh with e'|e'
     .obtain ⟨p,hp,hpy⟩:=(Te).mp e';have e3:=ok.ix p hp;have:p.1=y:=hpy;rw [this] at e3;exact hne ((Te).mpr #[p,hp,sU hN e3 e1])
     .exact e' (SE e1)
    rcases r with rfl|⟨rfl,rfl⟩
    .rcases hk' with rfl|rfl|rfl
     .exact absurd (.inl rfl) no
     .exact absurd (.inr rfl) no
     .exact #[e,.inr hk0]
    .exact #[e,.inl hk0]
   have e3:Ib cenv.scope y:=e3;rcases e3 with e3|e3|e3
   .exact key _ e3 (.inl rfl)
   .exact key _ e3 (.inr (.inl rfl))
   .exact key _ e3 (.inr (.inr rfl))
  obtain ⟨m,hn,hl⟩:=I.loc;have hvis:Ib X.env.scope y:=(ok.free _ (SY hfr.1) rfl).elim (λk=>.inr (.inl k)) (λk=>.inr (.inr k));obtain ⟨w,r,q⟩:=hl i y av e1 e2 hvis;refine #[w,r,.inr #[hfr.2,?_]];obtain ⟨c,h1,h2⟩:=look hfr.1;rcases q with ⟨k,_⟩|⟨_,c',e',z⟩
  .have k:X.env.scope.names.lookup y=some .local:=k;rcases ok.free _ (SY hfr.1) rfl with k'|k'<;>rw [show X.env.scope.names.lookup y=_ from k'] at k<;>cases k
  .rw [h2] at e';cases e';exact #[c,h1,z.keeps kp]
 .have e:cenv.cells.lookup y=some c:=e;rcases mem e with ⟨h1,_⟩|⟨_,z⟩
  .obtain ⟨w,z⟩:=I.cell y c h1;exact #[w,z.keeps kp]
  .exact #[_,z]
 .show H cenv.locals=none;rw [hL];exact I.a7.fresh (Sf _)
 .have e:cenv.cells.lookup y=some c:=e;rcases mem e with ⟨h1,_⟩|⟨h1,_⟩
  .exact I.gB y c h1
  .exact I.a7.fresh (Nat.le_of_succ_le h1)
 .exact absurd (show p∈([]:List (KE×Obj))++[] from hp) (by simp)
theorem K9 {E:UU->Se->Prop} {Q:UU->Se->Prop} (I:Inv X pins σ H s) (hD:H D=some (.lst xs)) (hz:xs.length<sizeLine) (r:RelV y v)
 (h:∀s',Inv X pins σ (upd H D (.lst (xs++[y]))) s'->Q .none s'):wpAny (model X.prog X.w) X.A (call (.builtin "list.append") [.ref D,v]) Q E s:=by
 obtain ⟨hz',its,n,ri,e⟩:=I.a7 D _ hD;have hl:=ri.length;refine append_at (hsz:=by rw [Sv];omega) e λh' sb ho'=>?_;refine h {s with heap:=h'} (I.write (t':=s.toks) (by rw [hD];trivial) (.inl rfl) (λb u hb q=>(sb.2 b hb).trans q) #[_,ho'] #[by rw [Sq];exact hz,its++[v],n+1,ri.append (.cons r .nil),?_]);rw [ho'];simp
def Nv (X:Cx) (ifs:List Expr) (t:TT):Prop:=
 ∀(pins:List (KE×Obj)) (s:Se) (σ:St) (H:Hp) (Q:Bool->Hp->Prop),Inv X pins σ H s->t σ H Q->
  wpAny (model X.prog X.w) X.A (forIn ifs true λc r=>if r=true then do let ok<-isTrue c X.env (eval c X.env);pure (ForInStep.yield ok) else pure (ForInStep.yield r)) (TP X pins σ Q) X.xe s
noncomputable def Nw:TT:=λ_ H Q=>Q true H
theorem oO:Nv X [] Nw:=λ_ _ _ H _ I h=>wpAny_tests_nil #[H,I,h]
theorem Iz (h:PT X c t):Nv X [c] t:=λpins s σ H Q I hw=>wpAny_tests_one (h pins s σ H Q I hw)
end
theorem K_ {α:Type} {t:Sem α} {Q Q':α->Se->Prop} {E:UU->Se->Prop} (h:wpAny M A t Q (λ_ _=>False) s) (hQ:∀a s,Q a s->Q' a s):wpAny M A t Q' E s:=TJ h hQ λ_ _ z=>TD z
theorem xY {R:Result->Se->Prop} (I:Nat->Se->Prop)
 (turn:∀n s,I n s->wpAny (model prog w) A (pyNext it) (λr s₁=>match r with
  |none=>R (.ok .next) s₁
  |some v=>wpAny (model prog w) A (letOwnedTupleGo target it v) (λ_ s₁'=>wpAny (model prog w) A (assign target env v) (λ_ s₂=>
   wpAny (model prog w) A (forIn ifs true λc r=>if r=true then do let ok<-isTrue c env (eval c env);pure (ForInStep.yield ok) else pure (ForInStep.yield r)) (λok s₃=>
    if ok=true then wpAny (model prog w) A (eval elt env) (λx s₄=>wpAny (model prog w) A (call (.builtin "list.append") [acc,x]) (λ_ s₅=>∃m,m<n/\I m s₅) (notedBy (model prog w) A env λe s'=>R (.error e) s') s₄) (notedBy (model prog w) A env λe s'=>R (.error e) s') s₃
    else∃m,m<n/\I m s₃) (notedBy (model prog w) A env λe s'=>R (.error e) s') s₂) (notedBy (model prog w) A env λe s'=>R (.error e) s') s₁') (notedBy (model prog w) A env λe s'=>R (.error e) s') s₁) (notedBy (model prog w) A env λe s'=>R (.error e) s') s)
 (n:Nat) (h:I n s):
 codeAny (model prog w) A (.compLoop (.ListComp elt [#[target,iter,ifs,0]] scope pos) 0 it acc env) R s:=by
 refine codeAny_loop rfl I (λn s hI=>?_) n h;show wpAny _ A ((compTurn (.ListComp elt [⟨target,iter,ifs,0⟩] scope pos) 0 it acc env).onRaise (λx=>do noteFrame x env;theTreesLotGoes x)) _ _ s;refine wpAny_noted ?_;rw [compTurn_list];refine Su (wpAny_standAt (Su (TJ (turn n s hI) (λr s₁ h₁=>?_) λ_ _ h'=>h')));cases r with
 |none=>exact S6 h₁
 |some v=>
  refine Su (TJ h₁ (λ_ s₁' h₁'=>?_) λ_ _ h'=>h');refine Su (TJ h₁' (λ_ s₂ h₂=>Su (TJ h₂ (λok s₃ h₃=>?_) λ_ _ h'=>h')) λ_ _ h'=>h');cases ok with
  |false=>exact S6 #[rfl,h₃]
  |true=>exact Su (Su (TJ h₃ (λx s₄ h₄=>Su (TJ h₄ (λ_ s₅ h₅=>S6 (S6 #[rfl,h₅])) λ_ _ h'=>h')) λ_ _ h'=>h'))
section
variable {X:Cx}
noncomputable def M8 (wi:TI) (g:TG) (tt:TT) (te:TE) (vs:List Nat):TE:=λσ H Q=>wi σ H λJ H1=>∀D,H1 D=none->∃W:Nat->Nat->Hp->Prop,(∃m,W 0 m (upd H1 D (.lst [])))/\∀i m H,W i m H->
 (J.stop i H/\Q (.ref D) H)\/(J.go i H/\∃Nx:Hp->Prop,(∀H',Nx H'->∃m',m'<m/\W (i+1) m' H')/\∀x H',J.JR i H x H'->g x (wipe σ vs) H' λσ2 H2=>wipe σ2 vs=wipe σ vs/\tt σ2 H2 λb H3=>if b=true then te σ2 H3 λy H4=>∃acc,H4 D=some (.lst acc)/\acc.length<sizeLine/\Nx (upd H4 D (.lst (acc++[y]))) else Nx H3)
end
end L2
namespace L2
open PySem PySem.Spec PyProof.Rows
section
variable {prog:SN} {w:S_} {A:Tl} {R:Result->Se->Prop} {s:Se} {elt t0 i0 t1 i1:Expr} {ifs0 ifs1:List Expr} {scope:Uz} {pos:Pos} {it acc:UU} {env:Env}
end
section
variable {X:Cx}
end
end L2
namespace L2
open PySem PySem.Spec PyProof.Rows
section
variable {κ:Type} [DecidableEq κ]
noncomputable def aY (kvs:List (κ×V)) (k:κ):Option V:=(kvs.find? λkv=>decide (kv.1=k)).map (·.2)
noncomputable def putK (kvs:List (κ×V)) (k:κ) (v:V):List (κ×V):=
 if (kvs.any λkv=>decide (kv.1=k))=true then kvs.map (λkv=>if kv.1=k then (kv.1,v) else kv) else kvs++[(k,v)]
theorem dY {p:κ×V} {r:List (κ×V)} {k:κ} (e:p.1=k):aY (p::r) k=some p.2:=by simp [aY,UP,e]
theorem dZ {p:κ×V} {r:List (κ×V)} {k:κ} (e:¬p.1=k):aY (p::r) k=aY r k:=by simp [aY,UP,e]
theorem jK (k:κ):∀kvs:List (κ×V),(kvs.any λkv=>decide (kv.1=k))=(aY kvs k).isSome
 |[]=>rfl
 |p::r=>by
  rw [Uh];by_cases e:p.1=k
  .simp only [dY e,decide_eq_true e,Bool.true_or,Option.isSome_some]
  .rw [dZ e,decide_eq_false e,Bool.false_or];exact jK k r
theorem Aa (k j:κ) (y:V):∀kvs:List (κ×V),aY (kvs.map λkv=>if kv.1=k then (kv.1,y) else kv) j=(aY kvs j).map λx=>if j=k then y else x
 |[]=>rfl
 |p::r=>by
  have ih:=Aa k j y r;rw [S1];by_cases h:p.1=k
  .rw [if_pos h];by_cases e:p.1=j
   .rw [dY (p:=(p.1,y)) e,dY e,Option.map_some,if_pos (e.symm.trans h)]
   .rw [dZ (p:=(p.1,y)) e,dZ e,ih]
  .rw [if_neg h];by_cases e:p.1=j
   .rw [dY (p:=p) e,dY e,Option.map_some,if_neg (λz=>h (e.trans z))]
   .rw [dZ (p:=p) e,dZ e,ih]
theorem wD (k j:κ) (y:V):∀kvs:List (κ×V),aY kvs k=none->aY (kvs++[(k,y)]) j=if j=k then some y else aY kvs j
 |[],_=>by
  by_cases e:k=j
  .rw [if_pos e.symm];exact dY (p:=(k,y)) e
  .rw [if_neg (λz=>e z.symm)];exact dZ (p:=(k,y)) e
 |p::r,hn=>by
  rw [List.cons_append];have hk:¬p.1=k:=λz=>by rw [dY z] at hn;cases hn
  rw [dZ hk] at hn;have ih:=wD k j y r hn;by_cases e:p.1=j
  .rw [dY e,dY e,if_neg (λz=>hk (e.trans z))]
  .rw [dZ e,dZ e,ih]
theorem d7 (kvs:List (κ×V)) (k j:κ) (y:V):aY (putK kvs k y) j=if j=k then some y else aY kvs j:=by
 unfold putK;by_cases a:(kvs.any λkv=>decide (kv.1=k))=true
 .rw [if_pos a,Aa];rw [jK] at a;by_cases e:j=k
  .obtain ⟨x,hx⟩:=Option.isSome_iff_exists.mp a;rw [if_pos e,e,hx,Option.map_some,if_pos rfl]
  .rw [if_neg e];cases aY kvs j with
   |none=>rfl
   |some x=>rw [Option.map_some,if_neg e]
 .rw [if_neg a];refine wD k j y kvs ?_;rw [jK] at a;cases q:aY kvs k with
  |none=>rfl
  |some x=>rw [q] at a;exact (a rfl).elim
theorem iS (kvs:List (κ×V)) (k:κ) (v:V):(putK kvs k v).length<=kvs.length+1:=by
 unfold putK;split
 .rw [w4];omega
 .rw [Sq,Si,Ur];omega
theorem oP {kvs:List (κ×V)} {k:κ} (v:V) (h:aY kvs k=none):putK kvs k v=kvs++[(k,v)]:=by unfold putK;rw [jK,h];exact if_neg (by decide)
theorem lw.il (r:lw o u):o.isSome=u.isSome:=by
 cases o with
 |none=>cases u with
  |none=>rfl
  |some _=>exact (show False from r).elim
 |some _=>cases u with
  |none=>exact (show False from r).elim
  |some _=>rfl
theorem KV.val {kvs:List (κ×V)} {vs:List (κ×UU)} (r:KV kvs vs) (k:κ):lw (aY kvs k) (valueAt vs k):=by
 unfold KV at r;induction r with
 |nil=>exact True.intro
 | @cons p q ps qs h t ih=>
   obtain ⟨h1,h2⟩:=h;by_cases e:p.1=k
   .have e':q.1=k:=h1.symm.trans e;have b:valueAt (q::qs) k=some q.2:=by simp [valueAt,UP,e']
    rw [dY e,b];exact h2
   .have e':¬q.1=k:=λz=>e (h1.trans z);have b:valueAt (q::qs) k=valueAt qs k:=by simp [valueAt,UP,e']
    rw [dZ e,b];exact ih
theorem KV.any {kvs:List (κ×V)} {vs:List (κ×UU)} (r:KV kvs vs) (k:κ):(kvs.any λkv=>decide (kv.1=k))=vs.any λkv=>decide (kv.1=k):=by
 unfold KV at r;induction r with
 |nil=>rfl
 |cons h t ih=>rw [Uh,Uh,ih,h.1]
theorem KV.La {kvs:List (κ×V)} {vs:List (κ×UU)} (r:KV kvs vs) (k:κ) (ry:RelV y u):
 KV (kvs.map λkv=>if kv.1=k then (kv.1,y) else kv) (vs.map λkv=>if kv.1=k then (kv.1,u) else kv):=by
 unfold KV at r ⊢;induction r with
 |nil=>exact .nil
 | @cons p q ps qs h t ih=>
   rw [S1,S1];refine .cons ?_ ih;obtain ⟨h1,h2⟩:=h;by_cases e:p.1=k
   .rw [if_pos e,if_pos (h1.symm.trans e)];exact #[h1,ry]
   .rw [if_neg e,if_neg (λz=>e (h1.trans z))];exact #[h1,h2]
theorem KV.put {kvs:List (κ×V)} {vs:List (κ×UU)} (r:KV kvs vs) (k:κ) (ry:RelV y u):KV (putK kvs k y) (stored vs k u):=by
 unfold putK stored;rw [r.any k];by_cases e:(vs.any λkv=>decide (kv.1=k))=true
 .rw [if_pos e,if_pos e];exact r.La k ry
 .rw [if_neg e,if_neg e];exact Paired.snoc r #[rfl,ry]
theorem KV.length {kvs:List (κ×V)} {vs:List (κ×UU)} (r:KV kvs vs):kvs.length=vs.length:=Paired.length r
end
theorem tz (r:RelV (kV k) u):(dq P w).is k u=true:=by
 cases k with
 |inl i=>obtain ⟨t,e⟩:=(show∃t,u=UU.int i t from r);subst e;exact zX P w i t
 |inr x=>obtain ⟨t,e⟩:=(show∃t,u=UU.str x t from r);subst e;exact zY P w x t
theorem wE:∀{ks:List Key} {us:List UU},Vals (ks.map kV) us->ItemsAre (dq P w) ks us
 |[],_,r=>by rw [List.map_nil] at r;cases r;exact .nil
 |k::ks,_,r=>by
  rw [S1] at r;cases r with
  |cons h t=>exact .cons (tz h) (wE t)
noncomputable abbrev KT (H:Hp):List (List Key×V)->List (List Key×KE×UU)->Prop:=Paired λp q=>p.1=q.1/\H q.2.1=some (.tup (p.1.map kV))/\RelV p.2 q.2.2
theorem KT.val (r:KT H kvs xs) (k:List Key):lw (aY kvs k) ((atKey xs k).map (·.2)):=by
 induction r with
 |nil=>exact True.intro
 | @cons p q ps qs h t ih=>
   obtain ⟨h1,_,h2⟩:=h;by_cases e:p.1=k
   .have e':q.1=k:=h1.symm.trans e;have b:atKey (q::qs) k=some q.2:=by simp [atKey,UP,e']
    rw [dY e,b];exact h2
   .have e':¬q.1=k:=λz=>e (h1.trans z);have b:atKey (q::qs) k=atKey qs k:=by simp [atKey,UP,e']
    rw [dZ e,b];exact ih
theorem KT.La (r:KT H kvs xs) (k:List Key) (ry:RelV y u):
 KT H (kvs.map λkv=>if kv.1=k then (kv.1,y) else kv) (xs.map (putAt k u)):=by
 induction r with
 |nil=>exact .nil
 | @cons p q ps qs h t ih=>
   rw [S1,S1];refine .cons ?_ ih;obtain ⟨h1,h2,h3⟩:=h;unfold putAt;by_cases e:p.1=k
   .rw [if_pos e,if_pos (h1.symm.trans e)];exact #[h1,h2,ry]
   .rw [if_neg e,if_neg (λz=>e (h1.trans z))];exact #[h1,h2,h3]
theorem KT.put (r:KT H kvs xs) (k:List Key) (hb:H b=some (.tup (k.map kV))) (ry:RelV y u):
 KT H (putK kvs k y) (storedH xs k b u):=by
 have e:(kvs.any λkv=>decide (kv.1=k))=(atKey xs k).isSome:=by rw [jK,(r.val k).il,Option.isSome_map]
 unfold putK storedH;rw [e];by_cases q:(atKey xs k).isSome=true
 .rw [if_pos q,if_pos q];exact r.La k ry
 .rw [if_neg q,if_neg q];exact Paired.snoc r #[rfl,hb,ry]
theorem KT.keeps (r:KT H kvs xs) (ht:∀b ys,H b=some (.tup ys)->H' b=some (.tup ys)):KT H' kvs xs:=
 Paired.Kt r λ_ _ z=>#[z.1,ht _ _ z.2.1,z.2.2]
section
variable {P:SN} {w:S_} {H:Hp} {h:Ti} {a:KE}
theorem JW (ok:iO P w H h) (e:Rd H a u):dE P w H h a u:=e.ok ok
theorem wF (ok:iO P w H h) (e:Rd H a (.dK kvs)):kvs.length<=sizeLine/\(a==sysModules)=false/\∃vs,KV kvs vs/\h.DictOf (dq P w) a vs:=
 show dE P w H h a (.dK kvs) from JW ok e
theorem Ny (ok:iO P w H h) (e:H a=some (.dK kvs)):kvs.length<=sizeLine/\(a==sysModules)=false/\∃vs,KV kvs vs/\h.DictOf (dq P w) a vs:=wF ok (.inl e)
theorem tE (ok:iO P w H h) (e:H a=some (.tup (ks.map kV))):(tupleKind (dq P w)).is h ks a:=by obtain ⟨_,its,r,o,h1,h2,n,h3⟩:=(show dE P w H h a (.tup (ks.map kV)) from ok a _ e);exact #[o,its.toArray,n,h1,h2,h3,by simpa using wE r]
theorem Ab (ok:iO P w H h) (e:Rd H a (.dT kvs)):kvs.length<=sizeLine/\(a==sysModules)=false/\
 ∃xs,KT H kvs xs/\h.DictOfH (tupleKind (dq P w)) a xs:=by
 obtain ⟨z,y,xs,r,o,es,ep,h1,h2,h3,h4,h5⟩:=(show dE P w H h a (.dT kvs) from JW ok e);refine #[z,y,xs,r,o,es,ep,h1,h2,h3,h4,λx hx=>?_,h5];have all:∀{l:List (List Key×V)} {m:List (List Key×KE×UU)},KT H l m->∀x∈m,(tupleKind (dq P w)).is h x.1 x.2.1:=by
  intro l m q;induction q with
  |nil=>intro x hx;exact nomatch hx
  | @cons p q ps qs hq t ih=>
    intro x hx;rcases (Sg).mp hx with e|hx
    .subst e;exact tE ok (by rw [<-hq.1];exact hq.2.1)
    .exact ih x hx
 exact all r x hx
theorem Nz (ok:iO P w H h) (e:H a=some (.dT kvs)):kvs.length<=sizeLine/\(a==sysModules)=false/\
 ∃xs,KT H kvs xs/\h.DictOfH (tupleKind (dq P w)) a xs:=Ab ok (.inl e)
end
def fT (H:Hp) (a:KE) (y:V) (r:Option V):Prop:=
 (∃kvs k,Rd H a (.dK kvs)/\y=kV k/\r=aY kvs k)\/∃kvs k b,Rd H a (.dT kvs)/\y= .ref b/\H b=some (.tup (k.map kV))/\r=aY kvs k
def tF (H:Hp) (a:KE) (y v:V) (H':Hp):Prop:=
 (∃kvs k,H a=some (.dK kvs)/\y=kV k/\kvs.length<sizeLine/\H'=upd H a (.dK (putK kvs k v)))\/
 ∃kvs k b,H a=some (.dT kvs)/\y= .ref b/\H b=some (.tup (k.map kV))/\kvs.length<sizeLine/\H'=upd H a (.dT (putK kvs k v))
theorem fT.k {H:Hp} {a:KE} {kvs:List (Key×V)} {k:Key} (e:H a=some (.dK kvs)):fT H a (kV k) (aY kvs k):=.inl #[kvs,k,.inl e,rfl,rfl]
theorem tF.k {H:Hp} {a:KE} {kvs:List (Key×V)} {k:Key} {v:V} (e:H a=some (.dK kvs)) (hl:kvs.length<sizeLine):tF H a (kV k) v (upd H a (.dK (putK kvs k v))):=.inl #[kvs,k,e,rfl,hl,rfl]
section
variable {X:Cx} {pins:List (KE×Obj)} {σ:St} {H:Hp} {s:Se} {a:KE} {y v:V} {u r:UU} {o:Option V} {A:Tl} {E:UU->Se->Prop}
theorem Inv.big (I:Inv X pins σ H s):sysModules<s.heap.objs.size:=by have h:mainGlobals<s.heap.objs.size:=(I.mod.glob.keeps I.bk).lt;exact Nat.lt_trans (by decide) h
theorem EG {Q:UU->Se->Prop} (hu:A.units+1<cLine) (I:Inv X pins σ H s) (g:fT H a y (some v)) (ry:RelV y u) (h:∀w' s',Inv X pins σ H s'->RelV v w'->Q w' s'):
 wpAny (model X.prog X.w) A (getItem (.ref a) u) Q E s:=by
 rcases g with ⟨kvs,k,e,ey,l⟩|⟨kvs,k,b,e,ey,eb,l⟩
 .subst ey;obtain ⟨z,hd,vs,rel,dd⟩:=wF I.a7 e;obtain ⟨w',hw,rw'⟩:=lw.some_of (v:=v) (o:=valueAt vs k) (by rw [l];exact rel.val k);exact wpAny_getItem_of (tz ry) dd.mapOf hw (h w' _ (I.tok _) rw')
 .subst ey;cases (show u=Sy b from ry);obtain ⟨z,hd,xs,rel,dd⟩:=Ab I.a7 e;obtain ⟨w',hw,rw'⟩:=lw.some_of (v:=v) (o:=(atKey xs k).map (·.2)) (by rw [l];exact rel.val k);obtain ⟨p,hp,hp2⟩:=Option.map_eq_some_iff.mp hw;refine wpAny_getItem_heap (tupleKind_room_in1 hu) (tE I.a7 eb) dd hp ?_;rw [hp2];exact h w' _ (I.tok _) rw'
theorem P_ {Q:UU->Se->Prop} (hu:A.units+1<cLine) (I:Inv X pins σ H s) (g:fT H a y o) (ry:RelV y u) (h:∀s',Inv X pins σ H s'->Q (.bool o.isSome) s'):
 wpAny (model X.prog X.w) A (compareOp .In u (.ref a)) Q E s:=by
 rcases g with ⟨kvs,k,e,ey,l⟩|⟨kvs,k,b,e,ey,eb,l⟩
 .subst ey;obtain ⟨z,hd,vs,rel,dd⟩:=wF I.a7 e;refine wpAny_in_of (tz ry) hd dd.mapOf ?_;rw [<-(rel.val k).il,<-l];exact h _ (I.tok _)
 .subst ey;cases (show u=Sy b from ry);obtain ⟨z,hd,xs,rel,dd⟩:=Ab I.a7 e;refine wpAny_in_heap (tupleKind_room_in1 hu) (tE I.a7 eb) hd dd ?_;have q:=(rel.val k).il;rw [Option.isSome_map] at q;rw [<-q,<-l];exact h _ (I.tok _)
theorem IA {Q:UU->Se->Prop} (hu:A.units+1<cLine) (I:Inv X pins σ H s) (g:fT H a y o) (ry:RelV y u) (h:∀s',Inv X pins σ H s'->Q (.bool (!o.isSome)) s'):
 wpAny (model X.prog X.w) A (compareOp .NotIn u (.ref a)) Q E s:=by
 rcases g with ⟨kvs,k,e,ey,l⟩|⟨kvs,k,b,e,ey,eb,l⟩
 .subst ey;obtain ⟨z,hd,vs,rel,dd⟩:=wF I.a7 e;refine wpAny_notIn_of (tz ry) hd dd.mapOf ?_;rw [<-(rel.val k).il,<-l];exact h _ (I.tok _)
 .subst ey;cases (show u=Sy b from ry);obtain ⟨z,hd,xs,rel,dd⟩:=Ab I.a7 e;refine wpAny_notIn_heap (tupleKind_room_in1 hu) (tE I.a7 eb) hd dd ?_;have q:=(rel.val k).il;rw [Option.isSome_map] at q;rw [<-q,<-l];exact h _ (I.tok _)
theorem DH {t':Nat} (I:Inv X pins σ H s) (mu:Nh (H a)) (hs:Ti.SameBut a s.heap h') (he:∃q,h'.get? a=some q) (new:dE X.prog X.w (upd H a ob) h' a ob):
 Inv X pins σ (upd H a ob) {s with heap:=h',toks:=t'}:=
 I.write (x:=a) (e:=a) mu (.inl rfl) (λb q hb z=>(hs.2 b hb).trans z) he new
theorem Lb (z:kvs.length<=sizeLine) (hd:(a==sysModules)=false) (rel:KV kvs vs) (dd:h'.DictOf (dq P w) a vs):
 dE P w H' h' a (.dK kvs):=#[z,hd,vs,rel,dd]
theorem EH {Q:Unit->Se->Prop} (hu:A.units+1<cLine) (I:Inv X pins σ H s) (g:tF H a y v H') (ry:RelV y u) (rv:RelV v r) (h:∀s',Inv X pins σ H' s'->Q () s'):
 wpAny (model X.prog X.w) A (setItem (.ref a) u r) Q E s:=by
 rcases g with ⟨kvs,k,e,ey,l,eH⟩|⟨kvs,k,b,e,ey,eb,l,eH⟩
 .subst ey eH;obtain ⟨z,hd,vs,rel,dd⟩:=Ny I.a7 e;have hz:vs.length<=sizeLine:=by rw [<-rel.length];exact z
  have hl:(putK kvs k v).length<=sizeLine:=by have:=iS kvs k v;omega
  refine wpAny_setItem_pairs (hsz:=hz) (tz ry) dd λh' dd' hs=>h _ ?_;have he:∃q,h'.get? a=some q:=let ⟨q,_,_,hq,_⟩:=dd';⟨q,hq⟩
  exact DH I (by rw [e];exact True.intro) hs he (Lb hl hd (rel.put k rv) dd')
 .subst ey eH;cases (show u=Sy b from ry);obtain ⟨z,hd,xs,rel,dd⟩:=Nz I.a7 e;have hz:xs.length<=sizeLine:=by rw [<-Paired.length rel];exact z
  have hl:(putK kvs k v).length<=sizeLine:=by have:=iS kvs k v;omega
  refine wpAny_setItem_heap (hsz:=hz) (tupleKind_room_in1 hu) (tE I.a7 eb) dd λh' dd' hs=>h _ ?_;obtain ⟨q,es,ep,hq,h2,h3,h4,_,h5⟩:=dd';refine DH I (by rw [e];exact True.intro) hs #[q,hq] #[hl,hd,_,(rel.put k eb rv).keeps λc ys ec=>?_,q,es,ep,hq,h2,h3,h4,h5];rw [ai (aX ec e nofun)];exact ec
end
section
variable {X:Cx} {pins:List (KE×Obj)} {σ:St} {H:Hp} {s:Se} {a:KE} {kvs:List (Key×V)} {k:Key} {u:UU} {A:Tl} {E:UU->Se->Prop}
theorem NA {Q:UU->Se->Prop} (I:Inv X pins σ H s) (e:Rd H a (.dK kvs)) (h:∀t s',Inv X pins σ H s'->Q (.int kvs.length t) s'):wpAny (model X.prog X.w) A (call (.builtin "len") [.ref a]) Q E s:=by obtain ⟨z,hd,vs,rel,dd⟩:=wF I.a7 e;refine call_len_dict hd dd (by rw [<-rel.length];rw [sizeLine_eq] at z;omega) ?_;rw [<-rel.length];exact h _ _ (I.tok _)
end
def Lc (i:Expr):Prop:=∀ov iv,subscripted i false ov iv=operate [ov,iv] (getItem ov iv)
theorem DI {E:UU->Se->Prop} {T id:String} {Q:UU->Se->Prop}
 (hl:typeLookup (.type T) "__getitem__" =pure (some (.builtin id))) (hs:Lc slice)
 (h:wpAny (model prog w) A (eval value env) (λo s₁=>wpAny (model prog w) A (eval slice env) (λi s₂=>s₂.TypeIs o T/\wpAny (model prog w) A (getItem o i) Q E s₂) E s₁) E s):
 wpAny (model prog w) A (eval (.Subscript value slice pos) env) Q E s:=by
 refine Subscript_ (TJ h (λo s₁ h₁=>TJ h₁ (λi s₂ h₂=>?_) λ_ _ x=>x) λ_ _ x=>x);obtain ⟨hT,h₂⟩:=h₂;unfold subscriptTail;refine Su ?_;rw [getitemInPython_of_ne hT.not_modules];refine Su (wpAny_specialOf hT hl ?_);have fin:wpAny (model prog w) A (subscripted slice false o i) (λr s₃=>wpAny (model prog w) A (letTemporaryGo value o r>>=λ_=>pure r) Q E s₃) E s₂:=by rw [hs o i];exact wpAny_operating (TJ h₂ (λr s₃ h₃=>Su (wpAny_letTemporaryGo (S6 h₃))) λ_ _ x=>x)
 first
  |exact S6 (Su fin)
  |exact Su (S6 (Su fin))
  |exact Su fin
theorem Ac (I:Inv X pins σ H s) (g:fT H a y o):s.TypeIs (.ref a) "dict" :=by
 rcases g with ⟨kvs,k,e,_,_⟩|⟨kvs,k,b,e,_,_,_⟩
 .obtain ⟨_,_,vs,_,dd⟩:=wF I.a7 e;exact dd.typeIs
 .obtain ⟨_,_,xs,_,dd⟩:=Ab I.a7 e;exact dd.typeIs
noncomputable def Ga (td ty:TE):TE:=λσ H Q=>td σ H λx H1=>ty σ H1 λy H2=>∃a v,x= .ref a/\fT H2 a y (some v)/\Q v H2
noncomputable def Ld (ty td:TE):TE:=λσ H Q=>ty σ H λy H1=>td σ H1 λx H2=>∃a o,x= .ref a/\fT H2 a y o/\Q (.bl o.isSome) H2
noncomputable def xZ (ty td:TE):TE:=λσ H Q=>ty σ H λy H1=>td σ H1 λx H2=>∃a o,x= .ref a/\fT H2 a y o/\Q (.bl (!o.isSome)) H2
noncomputable def Gb (td ty tv:TE):TS:=λD σ H=>tv σ H λv H1=>td σ H1 λx H2=>ty σ H2 λy H3=>∃a H4,x= .ref a/\tF H3 a y v H4/\D.nx σ H4
section
variable {X:Cx} {o i e value:Expr} {pos pos' tpos:Pos} {td ty tv:TE}
theorem oQ (hu:X.A.units+1<cLine) (ho:PE X o td) (hi:PE X i ty) (hs:Lc i):PE X (.Subscript o i pos) (Ga td ty):=by intro pins s σ H Q I h;refine DI PySem.F.slot_dict_getitem.lookup hs (ci (ho pins s σ H _ I h) λu s1 #[x,H1,I1,rx,q1]=>ci (hi pins s1 σ H1 _ I1 q1) λiv s2 zq=>?_);obtain ⟨y,H2,I2,ry,a,v,ex,g,q2⟩:=zq;subst ex;obtain rfl:u=Sy a:=rx;exact #[Ac I2 g,EG hu I2 g ry λw' s3 I3 rw'=>#[v,H2,I3,rw',q2]]
theorem nX (hu:X.A.units+1<cLine) (hi:PE X i ty) (ho:PE X o td):PC X .In i o (Ld ty td):=by intro pins s σ H Q I h;refine ci (hi pins s σ H _ I h) λiv s1 #[y,H1,I1,ry,q1]=>ci (ho pins s1 σ H1 _ I1 q1) λu s2 zq=>?_;obtain ⟨x,H2,I2,rx,a,ov,ex,g,q2⟩:=zq;subst ex;obtain rfl:u=Sy a:=rx;exact P_ hu I2 g ry λs3 I3=>#[.bl ov.isSome,H2,I3,rfl,q2]
theorem mD (hu:X.A.units+1<cLine) (hi:PE X i ty) (ho:PE X o td):PC X .NotIn i o (xZ ty td):=by intro pins s σ H Q I h;refine ci (hi pins s σ H _ I h) λiv s1 #[y,H1,I1,ry,q1]=>ci (ho pins s1 σ H1 _ I1 q1) λu s2 zq=>?_;obtain ⟨x,H2,I2,rx,a,ov,ex,g,q2⟩:=zq;subst ex;obtain rfl:u=Sy a:=rx;exact IA hu I2 g ry λs3 I3=>#[.bl (!ov.isSome),H2,I3,rfl,q2]
theorem gt (hu:X.A.units+1<cLine) (ho:PE X o td) (hi:PE X i ty) (hv:PE X value tv) (hs:swapsWith value (some (.Subscript o i pos')) pos.line X.env=pure false):
 PS X (.Assign [.Subscript o i pos'] value pos) (Gb td ty tv):=by
 intro pins s σ H D I h;refine wpAny_Assign_Subscript (ci (hv pins s σ H _ I h) λr s1 #[v,H1,I1,rv,q1]=>ci (ho pins s1 σ H1 _ I1 q1) λu s2 #[x,H2,I2,rx,q2]=>ci (hi pins s2 σ H2 _ I2 q2) λiv s3 zq=>?_) hs;obtain ⟨y,H3,I3,ry,a,H4,ex,g,q3⟩:=zq;subst ex;obtain rfl:u=Sy a:=rx;exact EH hu I3 g ry rv λs4 I4=>#[σ,H4,I4,q3]
end
theorem Gc (h:Ti) (hb:sysModules<h.objs.size):dE P w H (h.push {cls:=.type "dict",data:=.dict #[]}) h.objs.size (.dK []):=
 #[SW _,beq_eq_false_iff_ne.mpr (Ne.symm (Tu hb)),[],.nil,Ti.DictOf.new h]
noncomputable def x8:TE:=λ_ H Q=>∀p,H p=none->Q (.ref p) (upd H p (.dK []))
section
variable {X:Cx} {pos:Pos}
theorem eY:PE X (.Dict [] [] pos) x8:=λpins s σ H Q I h=>wpAny_Dict_empty #[.ref s.heap.objs.size,_,I.laid (a:=s.heap.objs.size) (o:=.dK []) (t':=s.toks) (λ_ _ q=>Sn _ q) (Sf _) (Gc s.heap I.big),rfl,h _ (I.a7.fresh (Sf _))]
end
section
variable {X:Cx} {pins:List (KE×Obj)} {σ:St} {H:Hp} {s:Se} {a:KE} {y d:V} {u r:UU} {o:Option V} {A:Tl} {E:UU->Se->Prop}
end
section
variable {X:Cx} {o e f:Expr} {apos cpos:Pos} {td ty tx:TE}
end
section
variable {X:Cx} {pins:List (KE×Obj)} {σ:St} {H:Hp} {s:Se} {a:KE} {kvs:List (Key×V)} {A:Tl} {E:UU->Se->Prop}
end
section
variable {X:Cx} {pins:List (KE×Obj)} {σ:St} {H:Hp} {s:Se} {a:KE} {y:V} {u:UU} {A:Tl} {E:UU->Se->Prop}
end
end L2
namespace L2
open PySem PySem.Spec PyProof.Rows
section
variable {prog:SN} {w:S_} {A:Tl} {E:UU->Se->Prop}
end
section
variable {X:Cx}
end
end L2
namespace L2
open PySem PySem.Spec PyProof.Rows
section
variable {X:Cx} {pins:List (KE×Obj)} {σ:St} {H:Hp} {s:Se} {h':Ti}
theorem Inv.sw {t':Nat} {ch:List KE} (I:Inv X pins σ H s) (k:∀b o,b∉ch->s.heap.get? b=some o->h'.get? b=some o) (hf:∀b∈ch,ke X pins H b):Inv X pins σ H {s with heap:=h',toks:=t'}:=by
 have nit:∀b u,H b=some u->b∉ch:=λb u e z=>by have q:=(hf b z).1;rw [q] at e;cases e
 refine I.step (g':=s.gens) (d':=s.drawn) (ch:=ch) (λb hb=>#[(hf b hb).2.2.2.1,(hf b hb).2.1,(hf b hb).2.2.2.2.1,(hf b hb).2.2.2.2.2]) (λb o _ _ hc e _=>k b o hc e) (λb o _ _ hc e _=>#[o.slots,k b o hc e])
  (λ_ _ _ _ n=>n) (λb o hc e=>#[o,k b o hc e]) (λ_ _ e=>e) (λ_ _ _ e=>e) (λb ps e=>#[#[],by rw [e];simp]) (λm hm=>?_) (λb u e=>?_) I.bare
 .obtain ⟨o,es,ep,ho,r⟩:=hm;exact #[o,es,ep,k _ o (λz=>(hf _ z).2.1 rfl) ho,r]
 .refine (I.a7 b u e).vp (λc v hc q=>k c v ?_ q) (λ_ q=>q) λ_ _ q=>q;rcases hc with z|z
  .rw [z];exact nit b u e
  .exact nit c _ z
end
section
variable {X:Cx}
theorem Ct {R:It->Hp->Prop} {tn:Nat->Ti->Prop} {tk:Nat} (I:Inv X pins σ H s) (o:Obj)
 (T:Turn X.prog X.w X.K tg J [s.heap.objs.size] s.heap.objs.size tn) (st:tn 0 (s.heap.push o)) (q:R J H):P1 X pins σ tg R (.ref s.heap.objs.size) {s with heap:=s.heap.push o,toks:=tk}:=by
 refine #[s.heap.objs.size,[s.heap.objs.size],tn,J,H,rfl,I.kept λb ob e=>Sn _ e,T,st,λb hb=>?_,q];have e:b=s.heap.objs.size:=by simpa using hb
 subst e;exact I.Cc (Sf _) (I.a7.fresh (Sf _))
end
noncomputable def PK (lo c:Int) (n:Nat):It:=#[λi _=>i<n,λi H x H'=>H'=H/\x= .int (lo+(i:Nat)*c),λi _=>n<=i]
theorem Ad {P:SN} {w:S_} {K:UT} {tg:Expr} (it:KE) (lo c:Int) (n:Nat):Turn P w K tg (PK lo c n) [it] it (λi h=>IsRangeIter h it (lo+(i:Nat)*c) ((n:Int)-(i:Nat)) c) where
 mem:=by simp
 obj:=λi h st b hb=>by
  have e:b=it:=by simpa using hb
  subst e;exact #[_,st,λv z=>nomatch z]
 keep:=λi h h' st k=>k it (by simp) _ st
 item:=by intro X hP hw hK hc i pins s σ H E I hf st hg;subst hP hw hK;obtain ⟨f0,f1,f2,f3,f4,f5⟩:=hf it (by simp);have W:=Walks.range (prog:=X.prog) (w:=X.w) (I.ok.hd hc) it lo c n;refine W.item i s _ _ hg st λv h' tk hv st' kk=>?_;obtain ⟨t,rfl⟩:=hv;have I1:Inv X pins σ H {s with heap:=h',toks:=tk}:=I.turned (λb o hb e=>kk b o (by simpa using hb) e) f0 f1 f3 f4 f5;exact #[_,rfl,zZ (s:={s with heap:=h',toks:=tk}) (n:="range_iterator") st' rfl rfl (by decide) #[.int (lo+(i:Nat)*c),H,I1,#[t,rfl],#[rfl,rfl],st',λb hb=>(hf b hb).1]]
 done:=by intro X hP hw hK hc i pins s σ H E I hf st hg;subst hP hw hK;obtain ⟨f0,f1,f2,f3,f4,f5⟩:=hf it (by simp);exact wpAny_pyNext_range_end (I.ok.hd hc) st (by have:n<=i:=hg;omega) λh' eb=>#[rfl,I.turned (t':=s.toks) (λb o hb e=>eb b o hb e) f0 f1 f3 f4 f5]
 self:=λA i s Q E st h=>wpAny_pyIter_rangeiter st h
def NB (i j c:Int) (n:Nat):Prop:=c≠0/\c.natAbs<1073741824/\Builtin.Range.small i j c=true/\UA i j c=n
theorem NB.neg {i j:Int} (ha:-(2^62)<=i) (ha':i<2^62) (hb:-(2^62)<=j) (hb':j<2^62):NB i j (-1) (i - j).toNat:=
 #[by decide,by decide,PySem.W.small_down ha ha' hb hb',PySem.W.rangeSize_downNat i j]
noncomputable def Gd (ta:TA):TI:=λσ H R=>ta σ H λvs H1=>∃(i j c:Int) (n:Nat),vs=[.int i,.int j,.int c]/\NB i j c n/\R (PK i c n) H1
section
variable {X:Cx} {tg:Expr}
theorem EI (hg:Gl X "range") (hm:X.mg "range" =none) (ha:PA X [a,b,c] ta)
 (hs:starEach [a,b,c] X.env=(false,eval a X.env)::starEach [b,c] X.env:=by rfl) (hpl:(backTo pos (starEach [b,c] X.env)).any (·.1)=false:=by rfl):
 PI X tg (.Call (.Name "range" p) [a,b,c] [] pos) (Gd ta):=by
 intro pins s σ H R I h;refine Call_ (qb I hg hm boot_range (Ul (ci (ha pos pins s σ H _ I h) λus s1 zq=>?_) hs hpl));obtain ⟨vs,H1,I1,r1,q1⟩:=zq;obtain ⟨i,j,k,n,e,⟨c0,c1,c2,c3⟩,q⟩:=q1;subst e;cases r1 with
 |cons r rr=>
  cases rr with
  |cons r' rr=>
   cases rr with
   |cons r'' rr=>
    cases rr;obtain ⟨t,rfl⟩:=r;obtain ⟨t',rfl⟩:=r';obtain ⟨t'',rfl⟩:=r'';refine call_range_3 c0 ?_ (.inl (PyProof.noPylong_small c1));refine wpAny_pyIter_range (IsRange.new ..) c2 ?_;have I2:Inv X pins σ H1 {s1 with heap:=s1.heap.push {cls:=.type "range",data:=.fields [.int i t,.int j t',.int k t''].toArray}}:=I1.kept (t':=s1.toks) λb o e=>Sn _ e;refine Ct (tk:=s1.toks) I2 _ (Ad _ i k n) ?_ q;have e1:i+((0:Nat):Int)*k=i:=by simp
    have e2:(n:Int)-((0:Nat):Int)=UA i j k:=by rw [c3];simp
    show IsRangeIter _ _ (i+((0:Nat):Int)*k) ((n:Int)-((0:Nat):Int)) k;rw [e1,e2];exact SL _ rfl
end
section
variable {X:Cx} {tg:Expr}
end
noncomputable def NC (x:Str):It:=#[λi _=>i<x.cps.size,λi H v H'=>H'=H/\∃c,x.cps[i]? =some c/\v= .str #[[c].toArray],λi _=>x.cps.size<=i]
theorem Ae {P:SN} {w:S_} {K:UT} {tg:Expr} (it:KE) (x:Str) (t:Tok) (ty:String) (hty:ty= "str_ascii_iterator" \/ty= "str_iterator"):
 Turn P w K tg (NC x) [it] it (λi h=>h.IsStrIter it ty x t i) where
 mem:=by simp
 obj:=λi h st b hb=>by
  have e:b=it:=by simpa using hb
  subst e;obtain ⟨o,e,c,d⟩:=st;exact #[o,e,λv z=>by rw [d] at z;cases z]
 keep:=λi h h' st k=>let ⟨o,ho,r⟩:=st;⟨o,k it (by simp) o ho,r⟩
 item:=by
  intro X hP hw hK hc i pins s σ H E I hf st hg;subst hP hw hK;obtain ⟨f0,f1,f2,f3,f4,f5⟩:=hf it (by simp);have W:Walks X.prog X.w X.A it [it] [it] x.cps.size (SignAt x) (λi h=>h.IsStrIter it ty x t i):=by
   rcases hty with e|e
   .rw [e];exact Walks.strAscii (I.ok.hd hc) it x t
   .rw [e];exact Walks.strWide (I.ok.hd hc) it x t
  have hno:["enumerate","zip","dict_itemiterator","dict_reverseitemiterator","odict_iterator","itertools.zip_longest","itertools.pairwise"].contains ty=false:=by
   rcases hty with e|e
   .rw [e];decide
   .rw [e];decide
  refine W.item i s _ _ hg st λv h' tk hv st' kk=>?_;obtain ⟨c,u,hcx,rfl⟩:=hv;have I1:Inv X pins σ H {s with heap:=h',toks:=tk}:=I.turned (λb o hb e=>kk b o (by simpa using hb) e) f0 f1 f3 f4 f5;obtain ⟨oi,e,cc,dd⟩:=id st';exact #[_,rfl,zZ (s:={s with heap:=h',toks:=tk}) e cc dd hno #[.str #[[c].toArray],H,I1,#[u,rfl],#[rfl,c,hcx,rfl],st',λb hb=>(hf b hb).1]]
 done:=by
  intro X hP hw hK hc i pins s σ H E I hf st hg;subst hP hw hK;obtain ⟨f0,f1,f2,f3,f4,f5⟩:=hf it (by simp);have hx:x.cps[i]? =none:=Array.getElem?_eq_none hg;rcases hty with e|e
  .rw [e] at st;exact wpAny_pyNext_ascii_end (I.ok.hd hc) st hx λh' eb=>#[rfl,I.turned (t':=s.toks) (λb o hb e=>eb b o hb e) f0 f1 f3 f4 f5]
  .rw [e] at st;exact wpAny_pyNext_wide_end (I.ok.hd hc) st hx λh' eb=>#[rfl,I.turned (t':=s.toks) (λb o hb e=>eb b o hb e) f0 f1 f3 f4 f5]
 self:=λA i s Q E st h=>by
  rcases hty with e|e
  .rw [e] at st;exact wpAny_pyIter_striter_ascii st h
  .rw [e] at st;exact wpAny_pyIter_striter_wide st h
noncomputable def Le (te:TE):TI:=λσ H R=>te σ H λv H1=>∃x,v= .str x/\R (NC x) H1
theorem Lf {X:Cx} {tg e:Expr} {te:TE} (he:PE X e te):PI X tg e (Le te):=by
 intro pins s σ H R I h;refine ci (he pins s σ H _ I h) λv s1 zq=>?_;obtain ⟨y,H1,I1,r1,x,ex,q⟩:=zq;subst ex;obtain ⟨t,rfl⟩:=r1;cases ha:x.cps.all (·<128)
 .exact wpAny_pyIter_wide ha (Ct (tk:=s1.toks) I1 _ (Ae _ x t "str_iterator" (.inr rfl)) #[_,SL _ rfl,rfl,rfl] q)
 .exact wpAny_pyIter_ascii ha (Ct (tk:=s1.toks) I1 _ (Ae _ x t "str_ascii_iterator" (.inl rfl)) #[_,SL _ rfl,rfl,rfl] q)
section
variable {prog:SN} {w:S_} {A:Tl} {E:UU->Se->Prop} {s:Se}
end
section
variable {X:Cx} {pins:List (KE×Obj)} {σ:St} {H:Hp} {s:Se} {d:KE} {o:Obj}
end
section
variable {P:SN} {w:S_} {K:UT} {tg:Expr} {d:KE} {o:Obj} {es:Array DictEntry} {ep:Nat}
end
section
variable {X:Cx} {tg e:Expr} {td:TE} {apos cpos:Pos}
end
end L2
section
namespace Qa
open PySem PyProof.Rows
end Qa
end
section
namespace TL
open PySem PySem.Builtin PySem.Builtin.Str PySem.StrLaws
noncomputable abbrev tl (x:Str):List Nat:=x.cps.toList
end TL
end
namespace L2
open PySem PySem.Spec PyProof.Rows
theorem wG:∀l:List (Str×Tok),Vals ((l.map (·.1)).map V.str) (strValues l)
 |[]=>.nil
 |p::r=>.cons #[p.2,rfl] (wG r)
theorem kh:∀{ys:List Str} {us:List UU},Vals (ys.map V.str) us->StrsAre us ys
 |[],_,.nil=>.nil
 |y::ys,_,.cons r t=>by obtain ⟨k,rfl⟩:=r;exact .cons y k (kh t)
noncomputable def oR (ys:List Str):Hp->VK->Prop:=λH Q=>∀p,H p=none->Q (.ref p) (upd H p (.lst (ys.map V.str)))
section
variable {X:Cx} {pins:List (KE×Obj)} {σ:St} {H:Hp} {s:Se} {Q:VK}
theorem ql {k:Nat} (I:Inv X pins σ H s) (e:l.map (·.1)=ys) (hz:ys.length<=sizeLine) (h:oR ys H Q):
 EP X pins σ Q (.ref s.heap.objs.size) {s with toks:=k,heap:=s.heap.push {cls:=.type "list",data:=.seq (strValues l).toArray}}:=by
 have hp:=I.a7.fresh (Sf _);refine #[.ref s.heap.objs.size,upd H s.heap.objs.size (.lst (ys.map V.str)),I.laid (λb u q=>Sn _ q) (Sf _) #[by rw [w4];exact hz,strValues l,_,?_,SL _ rfl],rfl,h _ hp];rw [<-e];exact wG l
end
section
variable {X:Cx}
theorem Ge:BM X "str.split" (λx xs H Q=>∃a b,x= .str a/\xs=[.str b]/\(b.length==0)=false/\a.length+2<=sizeLine/\oR (Uu a b) H Q):=by
 intro pins s σ H x xs v us Q I rx rs h;obtain ⟨a,b,rfl,rfl,hb,hz,h⟩:=h;obtain ⟨t,rfl⟩:=rx;cases rs with
 |cons r1 rs=>
  cases rs;obtain ⟨u,rfl⟩:=r1;have hl:(Uu a b).length<=sizeLine:=SA (PyProof.Rows.split_le a b) hz;have hn:(Builtin.Str.partsBetween a (Builtin.Str.occurrences a b 0 a.length (a.length+1)) b.length).length<=sizeLine:=by have e1:=StrLaws.occ_length_le a b 0 a.length (a.length+1);rw [length_partsBetween];omega
  cases h1:(decide (a.length<b.length)||decide (Builtin.Str.strKind a<Builtin.Str.strKind b))
  .cases hf:(Builtin.Str.occurrences a b 0 a.length (a.length+1)).isEmpty
   .refine call_meets F.slot_str_split (typeIs_str _ _ _) F.entry_str_split (F.args_str_split_2 _ _) (meets_str_split_sep a b t u h1 hb hf (by omega) hn) ?_;show EP X pins σ Q (.ref s.heap.objs.size) {s with toks:=_,heap:=s.heap.push {cls:=.type "list",data:=.seq (strsFrom s.toks (Builtin.Str.partsBetween a (Builtin.Str.occurrences a b 0 a.length (a.length+1)) b.length)).toArray}};rw [strsFrom_eq];exact ql (ys:=Uu a b) I ((numbered_texts _ _).trans ((if_neg (ne_true_of_eq_false h1)).trans (if_neg (ne_true_of_eq_false hf))).symm) hl h
   .refine call_meets F.slot_str_split (typeIs_str _ _ _) F.entry_str_split (F.args_str_split_2 _ _) (meets_str_split_not_found a b t u h1 hb hf) ?_;exact ql (l:=[(a,t)]) (ys:=Uu a b) (k:=s.toks) I ((if_neg (ne_true_of_eq_false h1)).trans (if_pos hf)).symm hl h
  .refine call_meets F.slot_str_split (typeIs_str _ _ _) F.entry_str_split (F.args_str_split_2 _ _) (meets_str_split_cannot_occur a b t u h1) ?_;exact ql (l:=[(a,t)]) (ys:=Uu a b) (k:=s.toks) I (if_pos h1).symm hl h
theorem IB:BM X "str.join" (λx xs H Q=>∃a p,∃ys:List Str,x= .str a/\xs=[.ref p]/\(cB X.K H p (ys.map V.str)\/ij X.K H p (ys.map V.str))/\
 (ys.map (·.length)).sum+ys.length*a.length<=16777216/\Q (.str (Txt.join a ys)) H):=by
 intro pins s σ H x xs v us Q I rx rs h;obtain ⟨a,p,ys,rfl,rfl,hp,hz,h⟩:=h;obtain ⟨t,rfl⟩:=rx;cases rs with
 |cons r1 rs=>
  cases rs;cases r1;rcases hp with hp|hp
  .obtain ⟨its,r,⟨o,n,ho,hc,_,hd⟩,_⟩:=I.list hp;exact PyProof.Rows.join_list (items:=its.toArray) #[o,ho,hc,n,hd] (by rw [List.toList_toArray];exact kh r) hz λt' k=>#[.str _,H,I.tok k,#[t',rfl],h]
  .obtain ⟨its,r,ht,_⟩:=I.tuple hp;exact PyProof.Rows.join_tuple (items:=its.toArray) ht (by rw [List.toList_toArray];exact kh r) hz λt' k=>#[.str _,H,I.tok k,#[t',rfl],h]
theorem RP {id:String} {C:Str->Prop} {g:Str->V} (rule:∀(a:Str) (t:Tok) (s:Se) (Q:UU->Se->Prop),C a->(∀(u:UU) (k:Nat),RelV (g a) u->Q u {s with toks:=k})->
 wpAny (model X.prog X.w) X.A (call (.builtin id) [.str a t]) Q X.xe s):BM X id (λx xs H Q=>∃a,x= .str a/\xs=[]/\C a/\Q (g a) H):=by
 intro pins s σ H x xs v us Q I rx rs h;obtain ⟨a,rfl,rfl,hc,h⟩:=h;obtain ⟨t,rfl⟩:=rx;cases rs;exact rule a t s _ hc λu k r=>#[g a,H,I.tok k,r,h]
theorem Cu:BM X "str.isdigit" (λx xs H Q=>∃a,x= .str a/\xs=[]/\True/\Q (.bl (Txt.isdigit a)) H):=
 RP (C:=λ_=>True) (g:=λa=>.bl (Txt.isdigit a)) λ_ _ s _ _ h=>PySem.SC.isdigit (h _ s.toks rfl)
theorem RQ {id:String} {g:Str->Str->V} (rule:∀(a b:Str) (t u:Tok) (s:Se) (Q:UU->Se->Prop),(∀(v:UU) (k:Nat),RelV (g a b) v->Q v {s with toks:=k})->
 wpAny (model X.prog X.w) X.A (call (.builtin id) [.str a t,.str b u]) Q X.xe s):BM X id (λx xs H Q=>∃a b,x= .str a/\xs=[.str b]/\Q (g a b) H):=by
 intro pins s σ H x xs v us Q I rx rs h;obtain ⟨a,b,rfl,rfl,h⟩:=h;obtain ⟨t,rfl⟩:=rx;cases rs with
 |cons r1 rs=>cases rs;obtain ⟨u,rfl⟩:=r1;exact rule a b t u s _ λv k r=>#[g a b,H,I.tok k,r,h]
theorem vt:BM X "str.startswith" (λx xs H Q=>∃a b,x= .str a/\xs=[.str b]/\Q (.bl (Uk a b)) H):=
 RQ (g:=λa b=>.bl (Uk a b)) λ_ _ _ _ s _ h=>PySem.SC.startswith (h _ s.toks rfl)
end
section
variable {X:Cx} {o e:Expr} {to te:TE}
noncomputable def Qb (r:V->List V->Hp->VK->Prop) (to:TE):TE:=λσ H Q=>to σ H λx H1=>(∃a,x= .str a)/\r x [] H1 Q
noncomputable def Lg (r:V->List V->Hp->VK->Prop) (to te:TE):TE:=λσ H Q=>to σ H λx H1=>(∃a,x= .str a)/\te σ H1 λy H2=>r x [y] H2 Q
theorem JX {id:String} {r:V->List V->Hp->VK->Prop} (slot:Slot "str" name id) (ty:typeOf (.builtin id)=pure (.type "method_descriptor")) (rule:BM X id r) (ho:PE X o to)
 (hbase:attributeBase o name X.env (eval o X.env)=eval o X.env:=by rfl) (hline:(apos.endLine==pos.line)=true:=by rfl):PE X (.Call (.Attribute o name apos) [] [] pos) (Qb r to):=by
 intro pins s σ H Q I h;refine PySem.Call_method0 hbase hline (ci (ho pins s σ H _ I h) λv s1 zq=>?_);obtain ⟨x,H1,I1,r1,q1⟩:=zq;obtain ⟨⟨a,rfl⟩,q1⟩:=q1;obtain ⟨t,rfl⟩:=_root_.id r1;exact #["str",_,F.plainAttrs_str,slot,ty,typeIs_str _ _ _,nofun,Calls.callWith_builtin rfl (PySem.evalArgs_none (rule pins s1 σ H1 _ [] _ [] Q I1 r1 .nil q1))]
theorem Af {id:String} {r:V->List V->Hp->VK->Prop} (slot:Slot "str" name id) (ty:typeOf (.builtin id)=pure (.type "method_descriptor")) (rule:BM X id r) (ho:PE X o to) (he:PE X e te)
 (hs:starEach [e] X.env=[(false,eval e X.env)]:=by rfl) (hbase:attributeBase o name X.env (eval o X.env)=eval o X.env:=by rfl) (hline:(apos.endLine==pos.line)=true:=by rfl):
 PE X (.Call (.Attribute o name apos) [e] [] pos) (Lg r to te):=by
 intro pins s σ H Q I h;refine PySem.Call_method1 hbase hs hline (ci (ho pins s σ H _ I h) λv s1 zq=>?_);obtain ⟨x,H1,I1,r1,q1⟩:=zq;obtain ⟨⟨a,rfl⟩,q1⟩:=q1;obtain ⟨t,rfl⟩:=_root_.id r1;refine #["str",_,F.plainAttrs_str,slot,ty,typeIs_str _ _ _,nofun,Calls.callWith_builtin rfl (Calls.evalArgs_plain (Calls.spliced_cons ?_))];exact ci (he pins s1 σ H1 _ I1 q1) λu s2 #[y,H2,I2,r2,q2]=>Calls.spliced_nil (rule pins s2 σ H2 _ [y] _ [u] Q I2 r1 (.cons r2 .nil) q2)
theorem Gf (ho:PE X o to) (he:PE X e te) (hs:starEach [e] X.env=[(false,eval e X.env)]:=by rfl) (hbase:attributeBase o "split" X.env (eval o X.env)=eval o X.env:=by rfl) (hline:(apos.endLine==pos.line)=true:=by rfl):
 PE X (.Call (.Attribute o "split" apos) [e] [] pos) (Lg (λx xs H Q=>∃a b,x= .str a/\xs=[.str b]/\(b.length==0)=false/\a.length+2<=sizeLine/\oR (Uu a b) H Q) to te):=
 Af F.slot_str_split F.type_str_split Ge ho he hs hbase hline
theorem IC (ho:PE X o to) (he:PE X e te) (hs:starEach [e] X.env=[(false,eval e X.env)]:=by rfl) (hbase:attributeBase o "join" X.env (eval o X.env)=eval o X.env:=by rfl) (hline:(apos.endLine==pos.line)=true:=by rfl):
 PE X (.Call (.Attribute o "join" apos) [e] [] pos) (Lg (λx xs H Q=>∃a p,∃ys:List Str,x= .str a/\xs=[.ref p]/\(cB X.K H p (ys.map V.str)\/ij X.K H p (ys.map V.str))/\
  (ys.map (·.length)).sum+ys.length*a.length<=16777216/\Q (.str (Txt.join a ys)) H) to te):=
 Af F.slot_str_join F.type_str_join IB ho he hs hbase hline
end
end L2
namespace L2
open PySem PySem.Spec PyProof.Rows
section
variable {X:Cx}
end
theorem IsPart.raw {o:Option Int} (p:IsPart v o):∃l:Option (Int×Tok),v=partValue l/\l.map (·.1)=o:=by
 cases p with
 |none=>exact #[none,rfl,rfl]
 |int i t=>exact #[some (i,t),rfl,rfl]
noncomputable def Ag (n d:Nat):Option Int->Int
 |none=>(d:Int)
 |some i=>max 0 (min (if i<0 then i+(n:Int) else i) (n:Int))
theorem Ah (n d:Nat) (o:Option Int):Ag n d o=((HT.gr n d o:Nat):Int):=by
 cases o with
 |none=>rfl
 |some v=>
  show max (0:Int) (min (if v<0 then v+(n:Int) else v) (n:Int))=(((if v<0 then (v+(n:Int)).toNat else min v.toNat n):Nat):Int);by_cases hv:v<0
  .simp only [if_pos hv];omega
  .simp only [if_neg hv];omega
theorem EJ (a b:Option Int) (n:Nat):Tc a b 1 n=sliceRange (Ag n 0 a) (Ag n n b) 1:=by
 have h1:((1:Int)>0)=True:=by simp
 cases a<;>cases b<;>first
  |rfl
  |(simp only [Tc,Ag,h1,if_true];rfl)
  |simp [Tc,Ag]
theorem Qc (a b:Option Int) (n:Nat):Tc a b 1 n=(SR (HT.gr n n b - HT.gr n 0 a)).map (λk=>HT.gr n 0 a+k):=by
 rw [EJ,Ah,Ah];generalize HT.gr n 0 a=p;generalize HT.gr n n b=q;simp only [sliceRange,show ((1:Int)>0)=True from by simp,if_true];by_cases hlt:(p:Int)<q
 .have e3:(((q:Int)- p+1 - 1)/1).toNat=q - p:=by first|omega|(simp;done)|(simp;omega)
  simp only [hlt,if_true,e3];refine List.map_congr_left λk _=>?_;omega
 .have:q - p=0:=by omega
  simp [hlt,this]
noncomputable def vv (z:Str) (lo hi:Option Int):Str:=
 #[((z.cps.toList.drop (HT.gr z.length 0 lo)).take (HT.gr z.length z.length hi - HT.gr z.length 0 lo)).toArray]
theorem nj (z:Str) (lo hi:Option Int):T0 z lo hi=vv z lo hi:=by
 have h1:HT.gr z.length 0 lo<=z.length:=HT.F5 _ _ (SW _) _;have h2:HT.gr z.length z.length hi<=z.length:=HT.F5 _ _ (Sf _) _;have hp:HT.gr z.length 0 lo<=max (HT.gr z.length 0 lo) (HT.gr z.length z.length hi):=Nat.le_max_left _ _;have hq:max (HT.gr z.length 0 lo) (HT.gr z.length z.length hi)<=z.length:=Nat.max_le.mpr #[h1,h2];have hd:max (HT.gr z.length 0 lo) (HT.gr z.length z.length hi)- HT.gr z.length 0 lo=HT.gr z.length z.length hi - HT.gr z.length 0 lo:=by omega
 have e:Tc lo hi 1 z.length=
  Tc (some ((HT.gr z.length 0 lo:Nat):Int)) (some ((max (HT.gr z.length 0 lo) (HT.gr z.length z.length hi):Nat):Int)) 1 z.length:=by
  rw [PySem.StrLaws.strSliceIndices_plain hp hq,hd,Qc]
 have e2:T0 z lo hi=
  T0 z (some ((HT.gr z.length 0 lo:Nat):Int)) (some ((max (HT.gr z.length 0 lo) (HT.gr z.length z.length hi):Nat):Int)):=by
  unfold T0;rw [e]
 rw [e2,PySem.StrLaws.sliceText_nat z hp hq,hd];rfl
theorem Ai (z:Str) (lo hi:Option Int):(vv z lo hi).length<=z.length:=by show (((z.cps.toList.drop (HT.gr z.length 0 lo)).take (HT.gr z.length z.length hi - HT.gr z.length 0 lo)).toArray).size<=z.cps.size;rw [Sv,S8,SQ,Tw];omega
noncomputable def Lh:V->Option Int->Option Int->Hp->VK->Prop:=λx lo hi H Q=>∃z,x= .str z/\z.length<=sizeLine/\Q (.str (vv z lo hi)) H
theorem tG:P4 X Lh:=by
 intro pins s σ H x v vl vu lo hi sl Q I rx hs pl pu h;obtain ⟨z,rfl,hz,q⟩:=h;obtain ⟨t,rfl⟩:=rx;obtain ⟨os,hos,hcs,hds⟩:=hs;obtain ⟨l,rfl,rfl⟩:=IsPart.raw pl;obtain ⟨u,rfl,rfl⟩:=IsPart.raw pu;refine #["str",_,F.slot_str_getitem.lookup,typeIs_str _ _ _,?_];refine wpAny_getItem_str_slice (l:=l) (u:=u) (st:=none) #[os,hos,hcs,hds] rfl ?_;have hl:(T0 z (l.map (·.1)) (u.map (·.1))).length<=sizeLine:=by rw [nj];exact SA (Ai z _ _) hz
 rw [<-nj] at q;unfold T0 at q hl;show Made.post (if ((1:Int)==1&&(Tc (l.map (·.1)) (u.map (·.1)) 1 z.length).length==z.length)=true then Made.val (.str z t)
  else Made.str ⟨((Tc (l.map (·.1)) (u.map (·.1)) 1 z.length).filterMap (z.cps[·]?)).toArray⟩) (EP X pins σ Q) s
 by_cases c:((1:Int)==1&&(Tc (l.map (·.1)) (u.map (·.1)) 1 z.length).length==z.length)=true
 .rw [if_pos c] at q ⊢;exact #[.str z,H,I,#[t,rfl],q]
 .rw [if_neg c] at q hl ⊢;exact #[hl,.str _,H,I.tok _,#[_,rfl],q]
end L2
namespace Att
open PySem PySem.W PySem.Calls PyProof.Rows
section
variable {prog:SN} {w:S_} {A:Tl} {E:UU->Se->Prop} {s:Se} {K:UT}
end
end Att
namespace L2
open PySem PySem.Spec PyProof.Rows
end L2
namespace L2
open PySem PySem.Spec PyProof.Rows
end L2
namespace L2
open PySem PySem.Spec PyProof.Rows
noncomputable abbrev d8:sm:=λ_ _ _ _ _ _=>False
noncomputable abbrev E0:XK:=λ_ _ _=>False
theorem bq:Passes d8 X E0:=λ_ _ _ _ _ _ _ h=>h.elim
section
variable {P:SN} {w:S_} {K:UT} {mg:Str->Option UU} {base:Ti}
theorem wp.ok {x qual:Str} {st:Stmt} {f:KE} {fd:Uf} {N ps:List Str} {k:Nat} {sp:Sp} (F:wp K x qual st f fd) (S:al N ps (ah st)) (len:∀vs H Q E,sp vs H Q E->vs.length=ps.length)
 (hbody:∀(cdv:UU) (A:Tl) (outer:List Env) (s:Se) (H:Hp) (vs:List V) (Q:VK) (E:XK),cE k (A.deeper (envOfC qual (ah st) s.heap.objs.size f cdv))->sp vs H Q E->
  ∃t,uY (fj d8 P w K mg base N qual (ah st) f cdv A outer s H E).FH (bL st) t/\t {nx:=λ_ H'=>Q .bZ H',rt:=Q} (start N vs) H):gE P w K mg base d8 (k+1) f fd ps sp:=by
 obtain ⟨oc,od,kV,doc,pm,an,cdv,ct,osl,rfl,lk,hcd⟩:=F.ex;refine F4 lk hcd S len λA outer s H vs Q E hr hsp=>?_;obtain ⟨t,h,q⟩:=hbody cdv A outer s H vs Q E hr hsp;exact #[t,h.FH,q]
theorem wp.binds {x qual:Str} {st:Stmt} {f:KE} {fd:Uf} {ps:List Str} (F:wp K x qual st f fd)
 (h:∀(kV doc pm:UU) (an:Option KE) (cdv ct:UU) (us:List UU),us.length=ps.length->bindArgs (Ts x qual (dr st) (bL st) (ah st) .none kV doc pm an cdv ct) #[us,[]]=pure (ps.zip us)):Binds K fd ps []:=by
 obtain ⟨oc,od,kV,doc,pm,an,cdv,ct,osl,rfl,lk,hcd⟩:=F.ex;exact .all (h kV doc pm an cdv ct)
end
theorem ir {k:Nat} (hr:cE k A):A.units+1<cLine:=Nat.lt_of_le_of_lt (Nat.add_le_add_left (by decide:1<=64) _) hr.units
section
variable {X:Cx}
theorem pv (i:Nat) (hN:X.N[i]? =some x:=by rfl) (hv:Ib X.env.scope x:=by first|exact Tk rfl|exact Tp (Tk rfl)|exact Tp (Tp rfl)) (hd:(x==("__debug__" :Str))=false:=by decide)
 (hcd:(x==("__classdict__" :Str))=false:=by decide):PE X (.Name x pos) (nU i):=Kz hN hv hd hcd
theorem EK:eR X (.builtin "len") (λxs H Q=>∃a kvs,xs=[V.ref a]/\H a=some (.dK kvs)/\Q (.int kvs.length) H):=by intro pins s σ H xs us Q I r h;obtain ⟨a,kvs,rfl,ha,q⟩:=h;obtain ⟨u,rfl,ru⟩:=vals1 r;cases ru;exact NA I (.inl ha) λt s' I'=>#[.int kvs.length,H,I',#[t,rfl],q]
end
def aj (H H':Hp):Prop:=∀b o,H b=some o->H' b=some o
theorem aj.refl (H:Hp):aj H H:=λ_ _ h=>h
theorem aj.trans (a:aj H H1) (b:aj H1 H2):aj H H2:=λc o h=>b c o (a c o h)
theorem aj.free (e:aj H H') (h:H' l=Option.none):H l=Option.none:=by
 cases q:H l with
 |none=>rfl
 |some o=>rw [e l o q] at h;cases h
section
variable {κ:Type} [DecidableEq κ]
theorem Gg {kvs:List (κ×V)} {k:κ} (h:aY kvs k=none):¬k∈kvs.map (·.1):=by intro m;obtain ⟨p,hp,e⟩:=(Te).mp m;have q:(kvs.any λkv=>decide (kv.1=k))=true:=(UF).mpr #[p,hp,decide_eq_true e];rw [jK,h] at q;exact absurd q (by simp)
theorem DJ:∀{l:List κ} {k:κ},l.Nodup->¬k∈l->(l++[k]).Nodup
 |[],k,_,_=>by simp
 |a::r,k,h,hk=>by
  obtain ⟨h1,h2⟩:=(TH).mp h;show (a::(r++[k])).Nodup;refine (TH).mpr #[λm=>?_,DJ h2 λm=>hk ((Sg).mpr (Tp m))];rcases (SU).mp m with q|q
  .exact h1 q
  .exact hk ((Sg).mpr (Tk ((SB).mp q).symm))
theorem ID {kvs:List (κ×V)} {k:κ} (v:V) (hn:(kvs.map (·.1)).Nodup) (h:aY kvs k=none):((putK kvs k v).map (·.1)).Nodup:=by rw [oP v h,Sw];exact DJ hn (Gg h)
end
theorem at_of {z:Int} {j:Nat} (e:z=(j:Int)) (h:xs[j]? =some v):Co xs z=some v:=by rw [e];exact su h
theorem aj.made (nx:H x=Option.none) (nd:H dx=Option.none) (k:∀b o,(upd (upd H dx (.own x)) x (.ins C dx [])) b=some o->b≠x->H1 b=some o):aj H H1:=λb o e=>k b o (by rw [ai (ak e nx),ai (ak e nd)];exact e) (ak e nx)
end L2
end
section
namespace L2
open PySem PySem.Spec PyProof.Rows
theorem Cv {K:UT} {h:Ti} {C:KE} (X:K.In h) (q:nO K C=true):∃N nm qn bs hdct sn sub ab col dd k0 k1 k2 k3 k5 mN,
 h.get? C=some (excClassObj nm qn C N bs Pu hdct sn sub ab col dd k0 k1 k2 k3 k5 "ValueError.__new__")/\h.Ns N mN/\mN "__init__" =none:=by
 unfold nO at q;split at q
 .rename_i dd cd sl ho;split at q
  .rename_i k0 k1 k2 k3 n k5 hs;simp only [S9,beq_iff_eq,Bool.not_eq_true'] at q;obtain ⟨⟨⟨⟨hm,rfl⟩,hdel⟩,a7⟩,hni⟩:=q;obtain ⟨nm,bs,mro,ns,qn,hd,sn,sub,ab,col,del⟩:=cd;dsimp only at hm hdel a7 hni;subst hm hdel;have hsl:sl= [k0,k1,k2,k3,some (.builtin "ValueError.__new__"),k5].toArray:=by obtain ⟨l⟩:=sl;simp only at hs;rw [hs]
   subst hsl;exact #[ns,nm,qn,bs,hd,sn,sub,ab,col,dd,k0,k1,k2,k3,k5,_,X _ _ ho,.of_isNs (PySem.W.isNs_of_in X a7),PySem.W.nsMap_none_of_in X a7 hni]
  .cases q
 .cases q
section
variable {M:Model} {A:Tl} {E:UU->Se->Prop}
theorem qm {nm q:Str} {C N:KE} {bs bm:List UU} {hdct:Bool} {sn:List Str} {sub:List UU} {ab:Bool} {col:Option Bool} {dd:Option KE} {k0 k1 k2 k3 k5:Option UU} {newId:String}
 {nm' q':Str} {C' N':KE} {bs' bm':List UU} {hdct':Bool} {sn':List Str} {sub':List UU} {ab':Bool} {col':Option Bool} {dd':Option KE} {k0' k1' k2' k3' k5':Option UU} {newId':String}
 {h:Ti} {g:Array GenState} {d:Drawn} {t:Nat} {os:OsState} {e:KE} {oe:Obj} {Q:Bool->Se->Prop}
 (hC:h.get? C=some (excClassObj nm q C N bs bm hdct sn sub ab col dd k0 k1 k2 k3 k5 newId)) (hC':h.get? C'=some (excClassObj nm' q' C' N' bs' bm' hdct' sn' sub' ab' col' dd' k0' k1' k2' k3' k5' newId'))
 (he:h.get? e=some oe) (hcls:oe.cls= .ref C) (hbase:bm'.contains (.type "BaseException")=true) (hno:(Sy C::bm).contains (.ref C')=false)
 (hq:Q false ⟨h,g,d,t,os⟩):wpAny M A (excMatches (.ref e) (.ref C')) Q E ⟨h,g,d,t,os⟩:=by
 have hcB:(Sy C'::bm').contains (.type "BaseException")=true:=by rw [List.contains_cons,hbase,Bool.or_true]
 have f:=tc_notTuple;unfold excMatches
 repeat (first|(with_reducible refine wpAny_loadPart_at he ?_;rw [hcls])|with_reducible refine wpAny_loadPart_at hC' ?_ |(with_reducible refine wpAny_isSubtype_exc hC' ?_;rw [hcB])|(with_reducible refine wpAny_isSubtype_exc hC ?_;rw [hno])|wp_step)
 exact hq
end
theorem dE.here {P:SN} {w:S_} {H:Hp} {h:Ti} {a:KE} {o:HO} (x:dE P w H h a o):∃u,h.get? a=some u:=by
 cases o with
 |lst xs=>obtain ⟨_,_,_,_,e⟩:=x;exact #[_,e]
 |tup xs=>obtain ⟨_,_,_,_,e,_⟩:=x;exact #[_,e]
 |dK kvs=>obtain ⟨_,_,_,_,o,_,_,e,_⟩:=x;exact #[_,e]
 |dT kvs=>obtain ⟨_,_,_,_,o,_,_,e,_⟩:=x;exact #[_,e]
 |set S n=>obtain ⟨o,_,_,_,e,_⟩:=x;exact #[_,e]
 |ins C dx fs=>obtain ⟨_,_,_,e,_⟩:=x;exact #[_,e]
 |own y=>exact x
 |xd fs=>obtain ⟨_,⟨_,_,_,e,_⟩,_⟩:=x;exact #[_,e]
 |Fq lo hi=>obtain ⟨_,_,_,e⟩:=x;exact #[_,e]
 |u0 ob u=>obtain ⟨e,_⟩:=x;exact #[_,e]
 |jC ps=>exact #[_,(show h.get? a=some _ from x)]
 |met f y=>exact #[_,(show h.get? a=some _ from x)]
 |ext φ=>obtain ⟨_,e,_⟩:=x;exact e
def lD (fs:List KE) (h0:Ti) (H':Hp) (h' B:Ti):Prop:=∀b o,h'.get? b=some o->b∉fs->((∃o0,h0.get? b=some o0)\/H' b≠none)->B.get? b=some o
noncomputable def cf (P:SN) (w:S_):sm:=λouter H s E e s'=>∃(ea C:KE) (H':Hp) (B:Ti) (a0:UU),e= .ref ea/\s'.os=s.os/\AllBare s'.gens/\Un (j0 outer) [] H H' s.heap s'.heap/\iO P w H' s'.heap/\
 Ti.FlyingW B outer ea (.ref C) a0 s'.heap/\lD (j0 outer) s.heap H' s'.heap B/\E (.ref C) none H'
theorem Un.then {fs:List KE} {H0 H1:Hp} {h0 h1 h2 B:Ti} (u:Un fs [] H0 H1 h0 h1) (hB:lD fs h0 H1 h1 B) (st:B.StaysIn h2) (fr:∀b∈fs,∀o,h1.get? b=some o->∃sl,h2.get? b=some {o with slots:=sl}):
 Un fs [] H0 H1 h0 h2 where
 keep:=λb o e n hb hx=>st b o (hB b o (u.keep b o e n hb hx) hb (.inl #[o,e]))
 slot:=λb o e n hb hx=>by obtain ⟨sl,q⟩:=u.slot b o e n hb hx;obtain ⟨sl',q'⟩:=fr b hb _ q;exact #[sl',q']
 free:=u.free
 there:=λb o e hx=>by
  obtain ⟨o',q⟩:=u.there b o e hx;by_cases hb:b∈fs
  .obtain ⟨sl,q'⟩:=fr b hb _ q;exact #[_,q']
  .exact #[o',st b o' (hB b o' q hb (.inl #[o,e]))]
 mR:=u.mR
 p_:=u.p_
 qa:=u.qa
theorem iO.then {P:SN} {w:S_} {fs:List KE} {H1:Hp} {h0 h1 h2 B:Ti} (x:iO P w H1 h1) (hB:lD fs h0 H1 h1 B) (st:B.StaysIn h2) (nf:∀b∈fs,H1 b=none):iO P w H1 h2:=λa o e=>by
 refine (x a o e).vp (λb u hb q=>?_) (λ_ q=>q) λ_ _ q=>q;have hne:H1 b≠none:=by
  rcases hb with rfl|hb
  .rw [e];exact λz=>nomatch z
  .rw [hb];exact λz=>nomatch z
 exact st b u (hB b u q (λhm=>hne (nf b hm)) (.inr hne))
theorem oS {base:Ti} {l:List Env} {h1 h2:Ti} (F:h1.FunFrames base l) (up:h1.UpToSlots h2):∀b∈j0 l,∀o,h1.get? b=some o->∃sl,h2.get? b=some {o with slots:=sl}:=λb hb o e=>by obtain ⟨_,o',ho',hnf⟩:=F.mem hb;rw [e] at ho';cases ho';exact up b o e hnf
section
variable {P:SN} {w:S_} {K:UT} {mg:Str->Option UU} {base:Ti} {N:List Str} {qual:Str} {scope:Uz} {f:KE} {cd:UU} {A:Tl} {outer:List Env} {s0:Se} {H0:Hp} {E:XK}
theorem Cw {pins:List (KE×Obj)} {σ:St} {H:Hp} {s:Se} {B h':Ti} {ea C:KE} {a0:UU} (I:Inv (fj (cf P w) P w K mg base N qual scope f cd A outer s0 H0 E) pins σ H s)
 (Aj:lD (j0 (envOfC qual scope s0.heap.objs.size f cd::outer)) s0.heap H s.heap B) (fl:Ti.FlyingW B outer ea (.ref C) a0 h') (up:s.heap.UpToSlots h') (q:E (.ref C) none H):
 cf P w outer H0 s0 E (.ref ea) {s with heap:=h'}:=by
 have nL:∀b o,s0.heap.get? b=some o->b∉j0 outer->b∉j0 (envOfC qual scope s0.heap.objs.size f cd::outer):=λb o e hb hm=>by
  rcases (Sg).mp (I.sT b hm) with z|z
  .have:b<s0.heap.objs.size:=SK e;have z':b=s0.heap.objs.size:=z;rw [z'] at this;exact Tr _ this
  .exact hb z
 have ub:Un (j0 outer) [] H0 H s0.heap s.heap:=I.base;have cov2:lD (j0 outer) s0.heap H s.heap B:=λb o e hb hc=>by
  refine Aj b o e ?_ hc;rcases hc with ⟨o0,z⟩|z
  .exact nL b o0 z hb
  .exact λhm=>z (I.my b hm)
 refine #[ea,C,H,B,a0,rfl,I.os,I.bare,ub.then cov2 fl.1 (oS I.mS up),I.a7.then cov2 fl.1 (λb hb=>I.my b (by obtain ⟨x,h1,h2⟩:=(Ua).mp hb;exact (Ua).mpr #[x,Sh _ h1,h2])),fl,?_,q]
 intro b o e hb hc;have here:∃o1,s.heap.get? b=some o1:=by
  rcases hc with ⟨o0,z⟩|z
  .exact ub.there b o0 z (by simp)
  .cases q:H b with
   |none=>exact absurd q z
   |some u=>exact (I.a7 b u q).here
 obtain ⟨o1,e1⟩:=here;have e2:=cov2 b o1 e1 hb hc;have e3:=fl.1 b o1 e2;have e:h'.get? b=some o:=e;rw [e3] at e;cases e;exact e2
theorem iu:Passes (cf P w) (fj (cf P w) P w K mg base N qual scope f cd A outer s0 H0 E) E:=by
 intro pins σ H s e s' I h;obtain ⟨ea,C,H',B,a0,rfl,os,bare,un,a7,fl,Aj,q⟩:=h;have J:Inv (fj (cf P w) P w K mg base N qual scope f cd A outer s0 H0 E) pins σ H' s':=I.wr (ch:=[]) os un a7 bare λb z=>absurd z (by simp);refine wpAny_leaves_onW (A:=(fj (cf P w) P w K mg base N qual scope f cd A outer s0 H0 E).A) I.ok.frames rfl fl λh' fl' up=>?_;refine Cw J (λb o e hb hc=>Aj b o e hb ?_) fl' up q;rcases hc with ⟨o0,z⟩|z
 .exact .inl (I.base.there b o0 z (by show b∉([]:List KE);simp))
 .exact .inr z
def ND (X:Cx) (E:XK):Prop:=∀(pins:List (KE×Obj)) (σ:St) (H:Hp) (s:Se) (h':Ti) (ea C:KE) (args:List UU),Inv X pins σ H s->Ti.MadeExcOf s.heap h' ea (.ref C) args->E (.ref C) none H->X.xe (.ref ea) {s with heap:=h'}
theorem newX:ND (fj (cf P w) P w K mg base N qual scope f cd A outer s0 H0 E) E:=by
 intro pins σ H s h' ea C args I hx q;have hin:∀env∈(envOfC qual scope s0.heap.objs.size f cd::outer),∀b,env.frame=some b->b∈(envOfC qual scope s0.heap.objs.size f cd::outer).filterMap (·.frame):=λenv he b hb=>(Ua).mpr #[env,he,hb];have J:Inv (fj (cf P w) P w K mg base N qual scope f cd A outer s0 H0 E) pins σ H {s with heap:=h'}:=I.kept (t':=s.toks) hx.keeps;refine wpAny_leaves_madeW (A:=(fj (cf P w) P w K mg base N qual scope f cd A outer s0 H0 E).A) (base:=TZ s.heap (j0 (envOfC qual scope s0.heap.objs.size f cd::outer))) (s:={s with heap:=h'}) I.ok.frames rfl (λb o e=>UL _ e) (PySem.W.funFrames_hide I.stack hin) hx λh'' t fl _ _ up=>?_;refine Cw J (λb o e hb hc=>?_) fl up q;have here:∃o1,s.heap.get? b=some o1:=by
  rcases hc with ⟨o0,z⟩|z
  .exact I.base.there b o0 z (by show b∉([]:List KE);simp)
  .cases q:H b with
   |none=>exact absurd q z
   |some u=>exact (I.a7 b u q).here
 obtain ⟨o1,e1⟩:=here;have e:h'.get? b=some o:=e;rw [hx.keeps b o1 e1] at e;cases e;exact PySem.W.hideAll_get _ e1 hb
end
noncomputable def Cy (C:KE) (E:XK):TS:=λ_ _ H=>E (.ref C) none H
section
variable {X:Cx} {E:XK}
theorem bw {x:Str} {C:KE} {np cpos pos:Pos} (hx:ND X E) (hc:X.calm=true) (hg:Gl X x) (hm:X.mg x=some (.ref C)) (q:nO X.K C=true) (hdb:(x==("__debug__" :Str))=false:=by decide):
 PS X (.Raise (some (.Call (.Name x np) [] [] cpos)) none pos) (Cy C E):=by
 intro pins s σ H D I h;obtain ⟨N,nm,qn,bs,hdct,sn,sub,ab,col,dd,k0,k1,k2,k3,k5,mN,hC,hN,hni⟩:=Cv I.sR q;refine wpAny_Raise_call_subT (C:=C) (N:=N) (nm:=nm) (q:=qn) (bs:=bs) (hdct:=hdct) (sn:=sn) (sub:=sub) (ab:=ab) (col:=col) (dd:=dd) (k0:=k0) (k1:=k1) (k2:=k2) (k3:=k3) (k5:=k5) (bm:=Pu) (bmB:=Pu) PySem.F.excBase_ValueError (by decide+kernel) (I.ok.hd hc) rfl hni (mz I hg hm #[rfl,?_] hdb);refine evalArgs_nil3 #[rfl,SW _,hC,hN,.base,λh' e hm'=>?_];exact hx pins σ H s h' e C [] I hm' h
end
noncomputable abbrev Cx.mark (X:Cx) (e:UU):Cx:={X with A:=X.A.mark (some e),calm:=false}
theorem Inv.mark {X:Cx} {pins:List (KE×Obj)} {σ:St} {H:Hp} {s:Se} (I:Inv X pins σ H s) (e:UU):Inv (X.mark e) pins σ H s:=
 #[#[I.ok.mod,I.ok.kind,I.ok.glob,I.ok.blt,I.ok.above,I.ok.inj,I.ok.has,I.ok.Kw,nofun,I.ok.frames,I.ok.M4,I.ok.M5,I.ok.bs,I.ok.Es,I.ok.B_,I.ok.Ca,I.ok.mS,I.ok.HP],I.os,I.bare,I.base,I.loc,I.cell,I.free,I.gB,I.pin,I.a7,I.len]
theorem Inv.unmark {X:Cx} {e:UU} {pins:List (KE×Obj)} {σ:St} {H:Hp} {s:Se} (ok:X.Ok) (I:Inv (X.mark e) pins σ H s):Inv X pins σ H s:=
 #[ok,I.os,I.bare,I.base,I.loc,I.cell,I.free,I.gB,I.pin,I.a7,I.len]
theorem SP.unmark {X:Cx} {e:UU} {pins:List (KE×Obj)} {D:Ends} {f:Flow} {s':Se} (ok:X.Ok) (h:SP (X.mark e) pins D f s'):SP X pins D f s':=by
 cases f with
 |next=>obtain ⟨σ',H',I,q⟩:=h;exact #[σ',H',I.unmark ok,q]
 |brk=>obtain ⟨σ',H',I,q⟩:=h;exact #[σ',H',I.unmark ok,q]
 |cont=>obtain ⟨σ',H',I,q⟩:=h;exact #[σ',H',I.unmark ok,q]
 |ret u=>obtain ⟨v,σ',H',I,r,q⟩:=h;exact #[v,σ',H',I.unmark ok,r,q]
structure IE (X:Cx) (pins:List (KE×Obj)) (σ:St) (H:Hp) (s:Se) (B:Ti) (ea C:KE) (a0:UU) (H0:Hp) (s0:Se):Prop where
 i0:Inv X pins σ H0 s0
 os:s.os=s0.os
 bare:AllBare s.gens
 un:Un (j0 X.stack) [] H0 H s0.heap s.heap
 a7:iO X.prog X.w H s.heap
 fl:Ti.FlyingW B X.stack ea (.ref C) a0 s.heap
 Aj:lD (j0 X.stack) s0.heap H s.heap B
section
variable {X:Cx} {pins:List (KE×Obj)} {σ:St} {H H0:Hp} {s s0:Se} {B h':Ti} {ea C:KE} {a0:UU}
theorem IE.inv (F:IE X pins σ H s B ea C a0 H0 s0):Inv X pins σ H s:=F.i0.wr (ch:=[]) F.os F.un F.a7 F.bare λb z=>absurd z (by simp)
theorem IE.nf (F:IE X pins σ H s B ea C a0 H0 s0):∀b∈j0 X.stack,H b=none:=λb hb=>by obtain ⟨_,o,ho,_⟩:=F.i0.stack.mem hb;exact F.un.free b o ho (F.i0.my b hb) (by simp)
theorem IE.turn (F:IE X pins σ H s B ea C a0 H0 s0) (st:B.StaysIn h') (fl:Ti.FlyingW B X.stack ea (.ref C) a0 h') (up:s.heap.UpToSlots h'):IE X pins σ H {s with heap:=h'} B ea C a0 H0 s0:=by
 refine #[F.i0,F.os,F.bare,F.un.then F.Aj st (oS F.fl.2.2.1 up),F.a7.then F.Aj st F.nf,fl,λb o e hb hc=>?_];have here:∃o1,s.heap.get? b=some o1:=by
  rcases hc with ⟨o0,z⟩|z
  .exact F.un.there b o0 z (by simp)
  .cases q:H b with
   |none=>exact absurd q z
   |some u=>exact (F.a7 b u q).here
 obtain ⟨o1,e1⟩:=here;have e2:=F.Aj b o1 e1 hb hc;have e3:=st b o1 e2;have e:h'.get? b=some o:=e;rw [e3] at e;cases e;exact e2
end
def PH (X:Cx) (hs:List ExceptHandler) (sel:KE->TS):Prop:=
 ∀(pins:List (KE×Obj)) (σ:St) (H H0:Hp) (s s0:Se) (B:Ti) (ea C:KE) (a0:UU) (D:Ends),IE X pins σ H s B ea C a0 H0 s0->nO X.K C=true->sel C D σ H->
  wpAny (model X.prog X.w) X.A (handleBy (.ref ea) X.env hs) (SP X pins D) X.xe s
theorem Gh {X:Cx} {hs:List ExceptHandler}:PH X hs λ_=>FK:=λ_ _ _ _ _ _ _ _ _ _ _ _ _ h=>h.elim
theorem iT {X:Cx} {x:Str} {C1:KE} {np pos:Pos} {b0:Stmt} {suite:List Stmt} {rest:List ExceptHandler} {th:TS} {sel:KE->TS} (hg:Gl X x) (hm:X.mg x=some (.ref C1)) (q1:nO X.K C1=true)
 (hsu:∀e,uY (X.mark e).FH (b0::suite) th) (hr:PH X rest sel) (hdb:(x==("__debug__" :Str))=false:=by decide):
 PH X (.ExceptHandler (some (.Name x np)) none (b0::suite) pos::rest) (λC=>if C=C1 then th else sel C):=by
 intro pins σ H H0 s s0 B ea C a0 D F qC h;obtain ⟨ob,hob,hobc⟩:=F.fl.there;have I:=F.inv;refine wpAny_handleBy_cons (codeAny_handlers_test (mz (X:=X.mark (.ref ea)) (I.mark _) hg hm ?_ hdb)) (by intro q;cases q);obtain ⟨N,nm,qn,bs,hdct,sn,sub,ab,col,dd,k0,k1,k2,k3,k5,mN,hC,hN,hni⟩:=Cv I.sR qC;obtain ⟨hh,g,d,tk,os⟩:=s;by_cases e:C=C1
 .subst e;rw [if_pos rfl] at h;refine wpAny_excMatches_sub_self hC hob hobc (by decide+kernel) (codeAny_handlers_suite ?_);refine lands_againW F.fl λh' fl' up=>?_;have F':=F.turn fl'.1 fl' up;have J:=F'.inv;refine TJ (hsu (.ref ea) pins _ σ H D ((J.mark _).rK _) h) (λf s' q=>?_) λ_ _ z=>TD z;exact SP.unmark I.ok (SP.j9 q)
 .rw [if_neg e] at h;obtain ⟨N',nm',qn',bs',hdct',sn',sub',ab',col',dd',k0',k1',k2',k3',k5',mN',hC',hN',hni'⟩:=Cv I.sR q1;refine qm hC hC' hob hobc (by decide+kernel) ?_ ?_
  .rw [List.contains_cons];have:(Sy C1==Sy C)=false:=beq_eq_false_iff_ne.mpr λz=>e (Sy.inj z).symm;rw [this];rfl
  .exact hr pins σ H H0 _ s0 B ea C a0 D F qC h
theorem Gi {X:Cx} {body:List Stmt} {h0:ExceptHandler} {hs:List ExceptHandler} {pos:Pos} {tb:XK->TS} {sel:KE->TS} (hst:X.stack=X.env::X.outer) (hfr:X.env.frame=some X.env.locals)
 (hb:∀(pn:List (KE×Obj)) (Ex:UU->Se->Prop) (E':XK),Passes (cf X.prog X.w) {X with pn:=pn,xe:=Ex} E'->uY {X with pn:=pn,xe:=Ex} body (tb E')) (hh:PH X (h0::hs) sel):
 PS X (.Try body (h0::hs) [] [] pos) (λD σ H=>tb (λcls _ H'=>∃C,cls= .ref C/\nO X.K C=true/\∀σ',σ'.length=σ.length->sel C D σ' H') D σ H):=by
 intro pins s σ H D I h;refine wpAny_Try_except ?_;have I2:∀{Ex:UU->Se->Prop} {σ':St} {H':Hp} {s':Se},Inv X pins σ' H' s'->Inv {X with pn:=X.pn++pins,xe:=Ex} [] σ' H' s':=λJ=>#[#[J.ok.mod,J.ok.kind,J.ok.glob,J.ok.blt,J.ok.above,J.ok.inj,J.ok.has,J.ok.Kw,J.ok.hd,J.ok.frames,J.ok.M4,J.ok.M5,J.ok.bs,J.ok.Es,J.ok.B_,J.ok.Ca,J.ok.mS,J.ok.HP],J.os,J.bare,J.base,J.loc,J.cell,J.free,J.gB,(λp hp=>J.pin p (by simpa using hp)),J.a7,J.len]
 have I3:∀{Ex:UU->Se->Prop} {pins':List (KE×Obj)} {σ':St} {H':Hp} {s':Se},Inv {X with pn:=X.pn++pins,xe:=Ex} pins' σ' H' s'->Inv X pins σ' H' s':=λJ=>#[I.ok,J.os,J.bare,J.base,J.loc,J.cell,J.free,J.gB,(λp hp=>J.pin p (List.mem_append_left _ hp)),J.a7,J.len]
 refine TJ (hb (X.pn++pins) (λe s₁=>wpAny (model X.prog X.w) X.A (noteFrame e X.env) (λ_ s₂=>wpAny (model X.prog X.w) X.A (setFlight e none) (λ_ s₃=>wpAny (model X.prog X.w) X.A (handleBy e X.env (h0::hs)) (SP X pins D) X.xe s₃) X.xe s₂) X.xe s₁)
  (λcls _ H'=>∃C,cls= .ref C/\nO X.K C=true/\∀σ',σ'.length=σ.length->sel C D σ' H') ?_ [] s σ H D (I2 I) h) (λf s' q=>?_) λ_ _ z=>z
 .intro pins' σ1 H1 s1 e s' J hx;obtain ⟨ea,C,H',B,a0,rfl,os,bare,un,a7,fl,Aj,C',eC,qC,q⟩:=hx;cases eC;have J':Inv X pins σ1 H1 s1:=I3 J;have F:IE X pins σ1 H' s' B ea C a0 H1 s1:=#[J',os,bare,un,a7,fl,Aj];have fl1:=fl;show wpAny (model X.prog X.w) X.A (noteFrame (.ref ea) X.env) _ X.xe s';refine wpAny_looks_onW (outer:=X.outer) (by rw [<-hst];exact I.ok.frames) hfr (by rw [<-hst];exact fl) λh4 held up4=>?_;refine wpAny_landsW held λh5 fl5 up5=>?_;refine hh pins σ1 H' H1 _ s1 B ea C a0 D (F.turn fl5.1 (by rw [hst];exact fl5) (up4.trans up5)) qC (q σ1 (by rw [J'.len,I.len]))
 .cases f with
  |next=>obtain ⟨σ',H',J,q⟩:=q;exact wpAny_execs_nil #[σ',H',I3 J,q]
  |brk=>obtain ⟨σ',H',J,q⟩:=q;exact #[σ',H',I3 J,q]
  |cont=>obtain ⟨σ',H',J,q⟩:=q;exact #[σ',H',I3 J,q]
  |ret u=>obtain ⟨v,σ',H',J,r,q⟩:=q;exact #[v,σ',H',I3 J,r,q]
theorem wp.M9 {P:SN} {w:S_} {K:UT} {mg:Str->Option UU} {base:Ti} {x qual:Str} {st:Stmt} {f:KE} {fd:Uf} {N ps:List Str} {k:Nat} {sp:Sp} (F:wp K x qual st f fd) (S:al N ps (ah st)) (len:∀vs H Q E,sp vs H Q E->vs.length=ps.length)
 (hbody:∀(cdv:UU) (A:Tl) (outer:List Env) (s:Se) (H:Hp) (vs:List V) (Q:VK) (E:XK),cE k (A.deeper (envOfC qual (ah st) s.heap.objs.size f cdv))->sp vs H Q E->
  ∃t,uY (fj (cf P w) P w K mg base N qual (ah st) f cdv A outer s H E) (bL st) t/\t {nx:=λ_ H'=>Q .bZ H',rt:=Q} (start N vs) H):gE P w K mg base (cf P w) (k+1) f fd ps sp:=by
 obtain ⟨oc,od,kV,doc,pm,an,cdv,ct,osl,rfl,lk,hcd⟩:=F.ex;exact F4 lk hcd S len λA outer s H vs Q E hr hsp=>hbody cdv A outer s H vs Q E hr hsp
end L2
end
section
namespace L2
open PySem PySem.Spec PyProof.Rows
def JY (P:SN) (w:S_) (K:UT) (mg:Str->Option UU) (base:Ti) (CX:sm) (k:Nat) (x:Str) (ps:List Str) (sp:Sp):Prop:=
 ∃f fd,mg x=some (.ref f)/\TX K (.ref f)=true/\Binds K fd ps []/\gE P w K mg base CX k f fd ps sp
theorem aG.Rm {P:SN} {w:S_} {K:UT} {mg:Str->Option UU} {base:Ti} {CX:sm} {k:Nat} {x:Str} {st:Stmt} {ps:List Str} {sp:Sp} (D:aG K mg x st)
 (hb:∀(kV doc pm:UU) (an:Option KE) (cdv ct:UU) (us:List UU),us.length=ps.length->bindArgs (Ts x x (dr st) (bL st) (ah st) .none kV doc pm an cdv ct) #[us,[]]=pure (ps.zip us))
 (h:∀f fd,wp K x x st f fd->gE P w K mg base CX k f fd ps sp):JY P w K mg base CX k x ps sp:=by
 obtain ⟨f,fd,e,F⟩:=D;exact #[f,fd,e,F.kp,F.binds hb,h f fd F]
section
variable {X:Cx} {CX:sm} {k:Nat} {ps:List Str} {sp:Sp} {E:XK} {x:Str} {p pos:Pos} {e:Expr} {es:List Expr} {t:TA}
theorem tH (F:JY X.prog X.w X.K X.mg X.base CX k x ps sp) (hr:cE k X.A) (hg:Gl X x) (hx:Passes CX X E) (ha:PA X (e::es) t) (hdb:(x==("__debug__" :Str))=false:=by decide)
 (he:starEach (e::es) X.env=(false,eval e X.env)::starEach es X.env:=by rfl) (hpl:(backTo pos (starEach es X.env)).any (·.1)=false:=by rfl):PE X (.Call (.Name x p) (e::es) [] pos) (tp sp [] E t):=by
 obtain ⟨f,fd,hm,hk,hb,G⟩:=F;exact Io G hr hg hm hk hb .nil hx ha hdb he hpl
theorem gI (n:Int) (h:∃t,X.mg x=some (.int n t)) (hg:Gl X x) (hd:(x==("__debug__" :Str))=false:=by decide):PE X (.Name x pos) (tC (.int n)):=by obtain ⟨t,h⟩:=h;exact xI hg h #[t,rfl] hd
theorem gS (h:∃t,X.mg x=some (.str y t)) (hg:Gl X x) (hd:(x==("__debug__" :Str))=false:=by decide):PE X (.Name x pos) (tC (.str y)):=by obtain ⟨t,h⟩:=h;exact xI hg h #[t,rfl] hd
theorem gR (h:X.mg x=some (.ref a)) (hg:Gl X x) (hd:(x==("__debug__" :Str))=false:=by decide):PE X (.Name x pos) (tC (.ref a)):=xI hg h rfl hd
end
def Ak (J:It) (g:TG) (tb:TS) (D:Ends) (σ:St) (H1:Hp):Prop:=∃W:Nat->Nat->St->Hp->Prop,(∃m,W 0 m σ H1)/\∀i m σ H,W i m σ H->
 (J.stop i H/\D.nx σ H)\/(J.go i H/\∃N:St->Hp->Prop,(∀σ' H',N σ' H'->∃m',m'<m/\W (i+1) m' σ' H')/\∀x H',J.JR i H x H'->g x σ H' λσ2 H2=>tb {D with nx:=N,ct:=N,bk:=D.nx} σ2 H2)
theorem IF (wi:TI) (g:TG) (tb:TS):KM wi g tb=λD σ H=>wi σ H λJ H1=>Ak J g tb D σ H1:=rfl
theorem kj {lo:Int} {n:Nat} (Pv:Nat->St->Hp->Prop) (h0:Pv 0 σ H)
 (hs:∀i σ H,i<n->Pv i σ H->g (.int (lo+i)) σ H λσ2 H2=>tb {D with nx:=Pv (i+1),ct:=Pv (i+1),bk:=D.nx} σ2 H2) (hd:∀σ H,Pv n σ H->D.nx σ H):Ak (FM lo n) g tb D σ H:=Ew Pv h0 hs hd
theorem bR {K:UT} {a:KE} {xs:List V} {g:TG} {tb:TS} {D:Ends} {σ:St} {H:Hp} (Pv:Nat->St->Hp->Prop) (h0:Pv 0 σ H) (hl:∀i σ H,i<=xs.length->Pv i σ H->cB K H a xs)
 (hs:∀i x σ H,xs[i]? =some x->Pv i σ H->g x σ H λσ2 H2=>tb {D with nx:=Pv (i+1),ct:=Pv (i+1),bk:=D.nx} σ2 H2) (hd:∀σ H,Pv xs.length σ H->D.nx σ H):Ak (Ie K a) g tb D σ H:=FS Pv h0 hl hs hd
def Cz (c:TT) (tb:TS) (D:Ends) (σ:St) (H:Hp):Prop:=xN c tb D σ H
theorem EL (c:TT) (tb:TS):xN c tb=λD σ H=>Cz c tb D σ H:=rfl
theorem lE (W:Nat->St->Hp->Prop) {m0:Nat} (h0:W m0 σ H)
 (hs:∀m σ H,W m σ H->c σ H λb H1=>if b=true then∃N:St->Hp->Prop,(∀σ' H',N σ' H'->∃m',m'<m/\W m' σ' H')/\tb {D with nx:=N,ct:=N,bk:=D.nx} σ H1 else D.nx σ H1):Cz c tb D σ H:=#[W,#[m0,h0],hs]
end L2
end
section
namespace L2
open PySem PySem.Spec PyProof.Rows
noncomputable def Gj (kvs:List (Key×V)) (ty:TE):TE:=λσ H Q=>ty σ H λy H1=>∃k v,y=kV k/\aY kvs k=some v/\Q v H1
noncomputable def Li (kvs:List (Key×V)) (ty:TE):TE:=λσ H Q=>ty σ H λy H1=>∃k,y=kV k/\Q (.bl (aY kvs k).isSome) H1
section
variable {X:Cx} {o i:Expr} {pos:Pos} {ty:TE} {a:KE} {kvs:List (Key×V)}
theorem km (G:m8 X.prog X.w X.K a kvs) (ho:PE X o (tC (.ref a))) (hi:PE X i ty) (hs:Lc i):PE X (.Subscript o i pos) (Gj kvs ty):=by intro pins s σ H Q I h;obtain ⟨hd,vs,rel,dd⟩:=G;refine DI PySem.F.slot_dict_getitem.lookup hs (ci (ho pins s σ H (λx H1=>x= .ref a/\H1=H) I #[rfl,rfl]) λu s1 zq=>?_);obtain ⟨x,H1,I1,rx,ex,eH⟩:=zq;subst ex eH;obtain rfl:u=Sy a:=rx;refine ci (hi pins s1 σ H1 _ I1 h) λiv s2 zq=>?_;obtain ⟨y,H2,I2,ry,k,v,ey,l,q2⟩:=zq;subst ey;have dd':=dd s2.heap I2.sR;obtain ⟨w',hw,rw'⟩:=lw.some_of (v:=v) (o:=valueAt vs k) (by rw [<-l];exact rel.val k);exact #[dd'.typeIs,wpAny_getItem_of (tz ry) dd'.mapOf hw #[v,H2,I2.tok _,rw',q2]]
theorem qp (G:m8 X.prog X.w X.K a kvs) (ho:PE X o (tC (.ref a))) (hi:PE X i ty):PC X .In i o (Li kvs ty):=by intro pins s σ H Q I h;obtain ⟨hd,vs,rel,dd⟩:=G;refine ci (hi pins s σ H _ I h) λiv s1 #[y,H1,I1,ry,k,ey,q1]=>ci (ho pins s1 σ H1 (λx H2=>x= .ref a/\H2=H1) I1 #[rfl,rfl]) λu s2 zq=>?_;obtain ⟨x,H2,I2,rx,ex,eH⟩:=zq;subst ex eH ey;obtain rfl:u=Sy a:=rx;have dd':=dd s2.heap I2.sR;refine wpAny_in_of (tz ry) hd dd'.mapOf ?_;rw [<-(rel.val k).il];exact #[.bl (aY kvs k).isSome,H2,I2.tok _,rfl,q1]
end
def FnAt (P:SN) (w:S_) (K:UT) (mg:Str->Option UU) (base:Ti) (CX:sm) (k:Nat) (f:KE) (ps:List Str) (sp:Sp):Prop:=
 ∃fd,TX K (.ref f)=true/\Binds K fd ps []/\gE P w K mg base CX k f fd ps sp
def vw (P:SN) (w:S_) (K:UT) (mg:Str->Option UU) (base:Ti) (CX:sm) (k:Nat) (C:KE) (m:Str) (ps:List Str) (sp:Sp):Prop:=
 ∃f fd,kW K C/\Meth K C m f/\Binds K fd ps []/\gE P w K mg base CX k f fd ps sp
def Gk (P:SN) (w:S_) (K:UT) (mg:Str->Option UU) (base:Ti) (CX:sm) (k:Nat) (C:KE) (x:Str) (ps:List Str) (sp:Sp):Prop:=
 ∃f fd,mg x=some (.ref C)/\Mk K C f/\Binds K fd ps []/\gE P w K mg base CX k f fd ps sp
theorem vw.mono {P:SN} {w:S_} {K:UT} {mg:Str->Option UU} {base:Ti} {CX:sm} {j k:Nat} {C:KE} {m:Str} {ps:List Str} {sp:Sp} (h:vw P w K mg base CX j C m ps sp) (l:j<=k):vw P w K mg base CX k C m ps sp:=
 let ⟨f,fd,a,b,c,d⟩:=h;⟨f,fd,a,b,c,d.mono l⟩
noncomputable def CB (F:KE->List Str->Sp->Prop) (tf:TE) (E:XK) (t:TA):TE:=λσ H Q=>tf σ H λx H1=>∃f ps sp,x= .ref f/\F f ps sp/\t σ H1 λvs H2=>sp vs H2 Q E
noncomputable def JZ (F:KE->List Str->Sp->Prop) (m:Str) (E:XK) (ta:TE) (t:TA):TE:=λσ H Q=>ta σ H λx H1=>∃a C dx fs ps sp,x= .ref a/\H1 a=some (.ins C dx fs)/\fs.lookup m=none/\F C ps sp/\
 t σ H1 λvs H2=>sp (x::vs) H2 Q E
section
variable {X:Cx} {CX:sm} {k:Nat} {C:KE} {ps:List Str} {sp:Sp} {E:XK} {x m:Str} {p pos apos:Pos} {e o func:Expr} {es:List Expr} {ta tf:TE} {t:TA}
theorem lF (hf:PE X func tf) (hr:cE k X.A) (hx:Passes CX X E) (ha:PA X (e::es) t)
 (hev:eval (.Call func (e::es) [] pos) X.env=(do callWith pos (<-eval func X.env) [] (backTo pos (starEach (e::es) X.env)) (backToKw pos (keywordEach [] X.env))):=by rfl)
 (he:starEach (e::es) X.env=(false,eval e X.env)::starEach es X.env:=by rfl) (hpl:(backTo pos (starEach es X.env)).any (·.1)=false:=by rfl):
 PE X (.Call func (e::es) [] pos) (CB (FnAt X.prog X.w X.K X.mg X.base CX k) tf E t):=by
 intro pins s σ H Q I h;rw [hev];refine Su (ci (hf pins s σ H _ I h) λu s1 zq=>?_);obtain ⟨x,H1,I1,rx,f,ps,sp,ex,⟨fd,hk,hb,F⟩,q⟩:=zq;subst ex;obtain rfl:u=Sy f:=rx;refine UM (h₀:=X.base) I.ok.mod.Kv hk (ci (ha pos pins s1 σ H1 _ I1 q) λus s2 #[vs,H2,I2,r,q2]=>#[I2.sR,?_]) he hpl;exact tq F hr hb .nil hx I2 r (by rw [Td];exact q2)
theorem IG {pl:Sem Bool} (he:PE X o ta) (hr:cE k X.A) (hx:Passes CX X E) (ha:PA X (e::es) t)
 (hst:starEach (e::es) X.env=(false,eval e X.env)::starEach es X.env:=by rfl) (hpl:(backTo pos (starEach es X.env)).any (·.1)=false:=by rfl)
 (ht:eval (.Call (.Attribute o m apos) (e::es) [] pos) X.env=(do
  let ov<-eval o X.env
  standAt apos.atName
  let (f,first)<-holding [ov] (getMethod ov m pl)
  callWith pos f first (backTo pos (starEach (e::es) X.env)) (backToKw pos (keywordEach [] X.env))):=by rfl):
 PE X (.Call (.Attribute o m apos) (e::es) [] pos) (JZ (λC=>vw X.prog X.w X.K X.mg X.base CX k C m) m E ta t):=by
 intro pins s σ H Q I h;refine PySem.W.methodCall_KW (pl:=pl) (ci (he pins s σ H _ I h) λu s1 zq=>?_) ht;obtain ⟨x,H1,I1,rx,a,C,dx,fs,ps,sp,ex,ea,l,⟨f,fd,c,hm,hb,F⟩,q⟩:=zq;subst ex;obtain rfl:u=Sy a:=rx;refine kf I1 ea c hm l ?_;refine UM (first:=[.ref a]) (h₀:=X.base) I.ok.mod.Kv hm.kp (ci (ha pos pins s1 σ H1 _ I1 q) λus s2 #[vs,H2,I2,r,q2]=>#[I2.sR,?_]) hst hpl;exact tq (us:=.ref a::us) (vs:=.ref a::vs) F hr hb .nil hx I2 (.cons rfl r) (by rw [Td];exact q2)
theorem bJ {pl:Sem Bool} (he:PE X o ta) (M:vw X.prog X.w X.K X.mg X.base CX k C m ps sp) (hr:cE k X.A) (hx:Passes CX X E) (ha:PA X (e::es) t)
 (hst:starEach (e::es) X.env=(false,eval e X.env)::starEach es X.env:=by rfl) (hpl:(backTo pos (starEach es X.env)).any (·.1)=false:=by rfl)
 (ht:eval (.Call (.Attribute o m apos) (e::es) [] pos) X.env=(do
  let ov<-eval o X.env
  standAt apos.atName
  let (f,first)<-holding [ov] (getMethod ov m pl)
  callWith pos f first (backTo pos (starEach (e::es) X.env)) (backToKw pos (keywordEach [] X.env))):=by rfl):
 PE X (.Call (.Attribute o m apos) (e::es) [] pos) (ww C m sp [] E ta t):=by
 obtain ⟨f,fd,c,hm,hb,F⟩:=M;exact Ip (pl:=pl) he c hm F hr hb .nil hx ha hst hpl ht
theorem mE {pl:Sem Bool} (he:PE X o ta) (M:vw X.prog X.w X.K X.mg X.base CX k C m ps sp) (hr:cE k X.A) (hx:Passes CX X E)
 (ht:eval (.Call (.Attribute o m apos) [] [] pos) X.env=(do
  let ov<-eval o X.env
  standAt apos.atName
  let (f,first)<-holding [ov] (getMethod ov m pl)
  callWith pos f first (backTo pos (starEach [] X.env)) (backToKw pos (keywordEach [] X.env))):=by rfl):
 PE X (.Call (.Attribute o m apos) [] [] pos) (ww C m sp [] E ta ly):=by
 obtain ⟨f,fd,c,hm,hb,F⟩:=M;exact F2 (pl:=pl) he c hm F hr hb .nil hx ht
theorem gF (M:Gk X.prog X.w X.K X.mg X.base CX k C x ps sp) (hr:cE (k+1) X.A) (hg:Gl X x) (hx:Passes CX X E) (ha:PA X (e::es) t) (hdb:(x==("__debug__" :Str))=false:=by decide)
 (he:starEach (e::es) X.env=(false,eval e X.env)::starEach es X.env:=by rfl) (hpl:(backTo pos (starEach es X.env)).any (·.1)=false:=by rfl):PE X (.Call (.Name x p) (e::es) [] pos) (wx C sp [] E t):=by
 obtain ⟨f,fd,hm,mk,hb,F⟩:=M;exact Iq mk F hr hg hm hb .nil hx ha hdb he hpl
theorem CC (M:Gk X.prog X.w X.K X.mg X.base CX k C x ps sp) (hr:cE (k+1) X.A) (hg:Gl X x) (hx:Passes CX X E) (hdb:(x==("__debug__" :Str))=false:=by decide):PE X (.Call (.Name x p) [] [] pos) (wx C sp [] E ly):=by obtain ⟨f,fd,hm,mk,hb,F⟩:=M;exact F3 mk F hr hg hm hb .nil hx hdb
end
theorem MethAt.EM {P:SN} {w:S_} {K:UT} {mg:Str->Option UU} {base:Ti} {CX:sm} {k:Nat} {C:KE} {m qual:Str} {st:Stmt} {ps:List Str} {sp:Sp} (D:MethAt K C m qual st) (cl:kW K C)
 (hb:∀(kV doc pm:UU) (an:Option KE) (cdv ct:UU) (us:List UU),us.length=ps.length->bindArgs (Ts m qual (dr st) (bL st) (ah st) .none kV doc pm an cdv ct) #[us,[]]=pure (ps.zip us))
 (h:∀f fd,wp K m qual st f fd->gE P w K mg base CX k f fd ps sp):vw P w K mg base CX k C m ps sp:=by
 obtain ⟨f,fd,e,F⟩:=D;exact #[f,fd,cl,e,F.binds hb,h f fd F]
theorem dU.Qd {P:SN} {w:S_} {K:UT} {mg:Str->Option UU} {base:Ti} {CX:sm} {k:Nat} {C:KE} {x qual:Str} {st:Stmt} {ps:List Str} {sp:Sp} (D:dU K C qual st) (hm:mg x=some (.ref C))
 (hb:∀(kV doc pm:UU) (an:Option KE) (cdv ct:UU) (us:List UU),us.length=ps.length->bindArgs (Ts "__init__" qual (dr st) (bL st) (ah st) .none kV doc pm an cdv ct) #[us,[]]=pure (ps.zip us))
 (h:∀f fd,wp K "__init__" qual st f fd->gE P w K mg base CX k f fd ps sp):Gk P w K mg base CX k C x ps sp:=by
 obtain ⟨f,fd,e,F⟩:=D;exact #[f,fd,hm,e,F.binds hb,h f fd F]
section
variable {X:Cx}
theorem tI:BM X "str.startswith" (λx xs H Q=>∃a b i,x= .str a/\xs=[.str b,.int i]/\Q (.bl (UD a b i)) H):=by
 intro pins s σ H x xs v us Q I rx rs h;obtain ⟨a,b,i,rfl,rfl,h⟩:=h;obtain ⟨t,rfl⟩:=rx;cases rs with
 |cons r1 rs=>
  cases rs with
  |cons r2 rs=>cases rs;obtain ⟨u,rfl⟩:=r1;obtain ⟨u2,rfl⟩:=r2;exact PySem.SC.startswith3 #[.bl (UD a b i),H,I,rfl,h]
end
end L2
end
section
namespace PySem.W
open PySem PySem.Calls PySem.NumText PyProof.Rows
namespace KIN
theorem Gm {E:UU->Se->Prop} {Q:UU->Se->Prop} {text:List Nat} {n:Int} (hn:s.heap.NoDigits)
 (hs:¬(text.takeWhile (·!=0)).length<=640) (hr:(int_private% "readNumeral") 4300 10 (text.takeWhile (·!=0))=(int_private% "Numeral.value") n)
 (ha:((text.takeWhile (·!=0)).length==text.length)=true) (h:Q (.int n s.toks) {s with toks:=s.toks+1}):
 wpAny M A ((int_private% "intFromText") v text 10) Q E s:=by
 obtain ⟨mc,hns,hnone⟩:=hn;obtain ⟨hp,g,d,tk,os⟩:=s
 repeat (any_goals (first
  |assumption
  |(with_reducible refine wpAny_ite_false (decide_eq_false hs) ?_)
  |(with_reducible refine wpAny_ite_true (decide_eq_true ha) ?_)
  |(with_reducible show wpAny _ _ Builtin.intMaxStrDigits _ _ _;unfold Builtin.intMaxStrDigits;refine Su (wpAny_nsGet hns ?_);rw [hnone];refine S6 ?_;dsimp only;rw [hr];dsimp only)
  |wp_step))
theorem Al {n:Int} (hl:640<(numSeenOf x).length) (hz:x.length<=sizeLine) (hn:PySem.intText? x=some n) {E:UU->Se->Prop} {Q:PySem.Fin->Se->Prop} (hd:s.heap.NoDigits)
 (h:Q (.done (.ret (.int n s.toks))) {s with toks:=s.toks+1}):wpAny M A (Builtin.«int.__new__» #[[.type "int",.str x u],[]]) Q E s:=by
 obtain ⟨hp,g,d,tk,os⟩:=s;have f1:=F.conv_sub_int;have f2:=F.madeHere_int;have f3:=str_int;have f4:=str_idx;have f5:=str_trunc;have f6:typeOf (.str x u)=pure (.type "str"):=rfl;have hr:(int_private% "readNumeral") 4300 10 (numSeenOf x)=(int_private% "Numeral.value") n/\((numSeenOf x).length==(numTextOf x).length)=true:=by
  rcases read4300 x hz with ⟨m,h1,h2,h3⟩|⟨h1,_⟩
  .rw [hn] at h1;injection h1 with h1;subst h1;exact #[h3,h2]
  .rw [hn] at h1;cases h1
 have hk:=Hid.mk (And.intro (And.intro (Nat.not_le_of_lt hl) hd) hr);clear hr hl hn hd hz
 repeat (any_goals (first
  |assumption
  |((with_reducible show wpAny _ _ ((int_private% "intFromText") _ _ _) _ _ _);refine Gm hk.out.1.2 hk.out.1.1 hk.out.2.1 hk.out.2.2 ?_)
  |wp_step))
 all_goals first|exact h|skip
end KIN
end PySem.W
namespace PySem.W
open PySem
theorem noDigits_of (X:K.In h) (a7:nsOkIn K cStatics=true) (hni:nsIn K cStatics "sys.int_max_str_digits" =some none):h.NoDigits:=
 #[_,.of_isNs (isNs_of_in X a7),nsMap_none_of_in X a7 hni]
end PySem.W
namespace L2
open PySem PySem.Spec PyProof.Rows
theorem x_ (a7:PySem.W.nsOkIn X.K cStatics=true) (hni:UQ X.K cStatics "sys.int_max_str_digits" =some none):
 eR X (.type "int") (λxs H Q=>∃a n,xs=[.str a]/\PySem.intText? a=some n/\a.length<=4300/\(numSeenOf a).length=a.length/\Q (.int n) H):=by
 intro pins s σ H xs us Q I rs h;obtain ⟨a,n,rfl,hn,hl,hs,h⟩:=h;cases rs with
 |cons r1 rs=>
  cases rs;obtain ⟨t,rfl⟩:=r1;by_cases c:a.length<=640
  .exact PySem.W.KIN.call_text hn c #[.int n,H,I.tok _,#[_,rfl],h]
  .refine call_int_1 (S:=λA R s=>s.heap.NoDigits/\R (.ok (.ret (.int n s.toks))) {s with toks:=s.toks+1}) (λprog w A R s h=>?_) #[PySem.W.noDigits_of I.sR a7 hni,rfl,?_]
   .exact PySem.W.KIN.Al (by omega) (SA hl (by decide)) hn h.1 h.2
   .exact #[.int n,H,I.tok _,#[_,rfl],h]
open PySem.F PySem.AutoSeq1 in
theorem rL (l:KE) (items:Array UU) (n:Nat) (b:KE) (items2:Array UU) (n2:Nat) (dd:Option KE) (sl:Array (Option UU)) (hs0:¬(!items.isEmpty&&T9 (items.size+items2.size))=true) (hs1:items.size<=sizeLine) (hs2:items.size+items2.size<=sizeLine+1):
 Meets (Builtin.«list.extend» #[[.ref l,.ref b],[]]) (λ_ R s=>s.heap.get? l=some {cls:=.type "list",dict:=none,data:=.seq items n,slots:=#[]}/\s.heap.get? b=some {cls:=.type "tuple",dict:=dd,data:=.seq items2 n2,slots:=sl}/\R (.ok (.ret Uy)) {s with heap:=s.heap.update l (TC λx=>x++items2),toks:=s.toks}):=
 .of_wp λprog w A R s h=>by
  obtain ⟨hp,g,d,tk,os⟩:=s;obtain ⟨hl,hb,h⟩:=h;have f1:=AutoSeq1.idx_int;have f2:=AutoSeq1.sub_tuple_tuple;have f3:=AutoSeq1.sub_list_list;have f4:=AutoSeq1.sub_tuple_list;have f5:=AutoSeq1.sub_list_tuple;
  have hz':(items++items2).size<=sizeLine+1:=by rw [Array.size_append];exact hs2
  wp_walk using (wpAny_updateSeq hl rfl (hz:=hs1) (_hz':=hz')),wpAny_loadPart' hl,wpAny_loadPart' hb;exact #[_,rfl,h]
noncomputable def Am:V->List V->Hp->VK->Prop:=λx vs H Q=>∃l b xs zs,x= .ref l/\vs=[.ref b]/\H l=some (.lst xs)/\H b=some (.tup zs)/\xs.length+zs.length<=sizeLine/\Q .bZ (upd H l (.lst (xs++zs)))
theorem tJ:PF X "list.extend" Am:=by
 intro pins s σ H x vs v us Q I rx rv h;obtain ⟨l,b,xs,zs,rfl,rfl,hH,hB,hz,q⟩:=h;cases rx;obtain ⟨u,rfl,ru⟩:=rv.one;cases ru;obtain ⟨z,its,n,r,hl,e⟩:=I.Cr hH;obtain ⟨its2,r2,⟨⟨cls,dd,data,sl⟩,e2,hc,n2,hd⟩,hl2⟩:=I.tuple (ij.of hB);simp only at hc hd;subst hc hd;have e3:=r2.length;have hsz:its.toArray.size+its2.toArray.size<=sizeLine:=by rw [Sv,Sv];omega
 have hlong:¬(!its.toArray.isEmpty&&T9 (its.toArray.size+its2.toArray.size))=true:=by rw [z8 hsz,Ub];exact SM
 refine call_meets T5 #[_,e,rfl] F.entry_list_extend (F.args_list_extend_2 _ _)
  (rL l its.toArray n b its2.toArray n2 dd sl hlong (by rw [Sv];omega) (by omega)) #[e,e2,?_]
 refine #[.bZ,_,I.Iw (its':=its++its2) hH e (by simp) (r.append r2) ?_,rfl,q];rw [Sq];omega
theorem tK {β:Type} {E:UU->Se->Prop} {f:Nat->β->Sem (ForInStep β)} {init b:β} {Q:β->Se->Prop} {j:Nat} (hq:Q b s1)
 (hno:∀m,m<j->∀Q':ForInStep β->Se->Prop,Q' (.yield init) s->wpAny M A (f m init) Q' E s) (hyes:∀Q':ForInStep β->Se->Prop,Q' (.done b) s1->wpAny M A (f j init) Q' E s):
 ∀(k i:Nat),i<=j->j<i+k->wpAny M A (forIn (List.range' i k) init f) Q E s
 |0,i,h1,h2=>by omega
 |k+1,i,h1,h2=>by
  rw [List.range'_succ,List.forIn_cons];refine Su ?_;by_cases e:i=j
  .subst e;exact hyes _ (S6 hq)
  .exact hno i (by omega) _ (tK hq hno hyes k (i+1) (by omega) (by omega))
theorem vx (a:KE) (items:Array UU) (n:Nat) (dd:Option KE) (sl:Array (Option UU)) (x:UU) (e:UU->Bool) (j:Nat) (hj:j<items.size) (hit:e items[j]=true) (hno:∀m (hm:m<items.size),m<j->e items[m]=false):
 Meets (Builtin.«tuple.index» #[[.ref a,x],[]])
  (λA R s=>s.heap.get? a=some {cls:=.type "tuple",dict:=dd,data:=.seq items n,slots:=sl}/\(∀y,y∈items->SeqAt.EqAt A.in1 s y x (e y))/\R (.ok (.ret (.int j s.toks))) {s with toks:=s.toks+1}):=by
 intro prog w A R s h;obtain ⟨hp,g,d,tk,os⟩:=s;obtain ⟨hl,he,h⟩:=h;unfold Builtin.«tuple.index»;simp only [Std.Legacy.Range.forIn_eq_forIn_range']
 wp_walk using wpAny_loadPart' hl
 have e0:Std.Legacy.Range.size [:min items.size items.size]=items.size:=by simp [Std.Legacy.Range.size]
 rw [e0];refine tK (j:=j) (b:=(some (Fin.done (.ret (.int j tk))),())) (s1:=#[hp,g,d,tk+1,os]) ?_ (λm hm Q' hq=>?_) (λQ' hq=>?_) items.size 0 (SW _) (by omega)
 .exact S6 h
 .have hlt:m<items.size:=by omega
  rw [Array.getElem?_eq_getElem hlt];refine Su (he _ (Array.getElem_mem hlt) prog w _ _ ?_);rw [hno m hlt hm];exact S6 hq
 .rw [Array.getElem?_eq_getElem hj];refine Su (he _ (Array.getElem_mem hj) prog w _ _ ?_);rw [hit]
  wp_walk
  exact hq
noncomputable def IH (K:UT):V->List V->Hp->VK->Prop:=λx xs H Q=>∃(a:KE) (ys:List V) (y:V) (j:Nat) (z:V),x=V.ref a/\xs=[y]/\ij K H a ys/\fV y=true/\ys.all fV=true/\ys[j]? =some z/\zm z y=true/\
 (∀(m:Nat) (z':V),m<j->ys[m]? =some z'->zm z' y=false)/\Q (.int (j:Nat)) H
theorem EN:BM X "tuple.index" (IH X.K):=by
 intro pins s σ H x xs v us Q I rx rxs h;obtain ⟨a,ys,y,j,z,rfl,rfl,hs,fy,fys,hz,hzj,hno,q⟩:=h;cases rx;cases rxs with
 |cons ry rt=>
  rename_i uy ut;cases rt;obtain ⟨its,rv,⟨⟨cls,dd,data,sl⟩,ho,hc,n,hd⟩,hlen⟩:=I.tuple hs;simp only at hc hd;subst hc hd;obtain ⟨u,hu,ru⟩:=rv.get hz;obtain ⟨hjl,hje⟩:=(Sl).mp hu;have hvl:=rv.length;have hj:j<its.toArray.size:=by simpa using hjl
  refine call_meets PySem.F.slot_tuple_index #[_,ho,rfl] PySem.F.entry_tuple_index (PySem.F.args_tuple_index_2 _ _)
   (vx a its.toArray n dd sl uy (z7 y) j hj ?_ ?_) #[ho,λu' hu'=>iq ry fy rv fys u' (by simpa using hu'),?_]
  .have e1:its.toArray[j]=u:=by simpa using hje
   rw [e1,qf ru (sv fys hz)];exact hzj
  .intro m hm hmj;have hml:m<its.length:=by simpa using hm
   have hmy:m<ys.length:=by omega
   have hy':ys[m]? =some ys[m]:=Ss hmy;obtain ⟨u2,hu2,ru2⟩:=rv.get hy';obtain ⟨_,hme⟩:=(Sl).mp hu2;have e1:its.toArray[m]=u2:=by simpa using hme
   rw [e1,qf ru2 (sv fys hy')];exact hno m _ hmj hy'
  .exact #[.int (j:Nat),H,I.tok _,#[_,rfl],q]
end L2
end
section
namespace L2
open PySem PySem.Spec PyProof.Rows
section
variable {K:UT} {D:Ends} {σ:St} {H:Hp} {Q:VK} {QT:Bool->Hp->Prop} {QA:List V->Hp->Prop} {QO:Option Int->Hp->Prop} {R:It->Hp->Prop} {A:Option V->Hp->Prop} {a b c:TS} {ta tb tc td te:TE} {t u:TT} {tr:TA} {tl th:TO} {i:Nat} {v x y:V} {xs:List V} {E:XK} {sp:Sp} {f:Str} {r r':R2} {ra:V->Hp->VK->Prop} {rb:List V->Hp->VK->Prop} {rc:V->List V->Hp->VK->Prop} {rs:V->Option Int->Option Int->Hp->VK->Prop} {z:Bool} {w:Str} {o:Option V} {l:Option Int} {n:Int} {T:String}
theorem sc_ii {i j:Int}:Ij (.int i) (.int j)=true:=rfl
theorem sc_ss {i j:Str}:Ij (.str i) (.str j)=true:=rfl
noncomputable def En (Q:VK):Ends:={nx:=λ_ H'=>Q .bZ H',rt:=Q}
theorem NE (h:Q .bZ H):(En Q).nx σ H:=h
theorem NF (h:Q v H):(En Q).rt v H:=h
noncomputable def Ends.sq (D:Ends) (b:TS):Ends:={D with nx:=b D}
theorem CD (h:b D σ H):(D.sq b).nx σ H:=h
theorem NG (h:D.rt v H):(D.sq b).rt v H:=h
theorem NH (h:D.bk σ H):(D.sq b).bk σ H:=h
theorem NI (h:D.ct σ H):(D.sq b).ct σ H:=h
def II (D:Ends) (σ:St) (i:Nat):VK:=λx H=>D.nx (σ.set i (some x)) H
theorem NJ (h:D.nx (σ.set i (some x)) H):II D σ i x H:=h
def J0 (D:Ends) (σ:St):VK:=λ_ H=>D.nx σ H
theorem Lj (h:D.nx σ H):J0 D σ x H:=h
def Rn (a c:TS) (D:Ends) (σ:St):Bool->Hp->Prop:=λb H=>if b=true then a D σ H else c D σ H
theorem Qe (h:if z=true then a D σ H else c D σ H):Rn a c D σ z H:=h
def kB (QT:Bool->Hp->Prop):VK:=λx H=>∃c,x= .bl c/\QT c H
def Ro (u:TT) (σ:St) (QT:Bool->Hp->Prop):Bool->Hp->Prop:=λc H=>if c=true then QT true H else u σ H QT
theorem Qg (h:if z=true then QT true H else u σ H QT):Ro u σ QT z H:=h
def NK (u:TT) (σ:St) (QT:Bool->Hp->Prop):Bool->Hp->Prop:=λc H=>if c=true then u σ H QT else QT false H
theorem NL (h:if z=true then u σ H QT else QT false H):NK u σ QT z H:=h
def NM (QT:Bool->Hp->Prop):Bool->Hp->Prop:=λc H=>QT (!c) H
theorem NN (h:QT (!z) H):NM QT z H:=h
def NO (tb:TE) (σ:St) (Q:VK):VK:=λx H=>∃c,x= .bl c/\if c=true then Q (.bl true) H else tb σ H Q
theorem NP (h:if z=true then Q (.bl true) H else tb σ H Q):NO tb σ Q (.bl z) H:=#[_,rfl,h]
def J4 (tb:TE) (σ:St) (Q:VK):VK:=λx H=>∃c,x= .bl c/\if c=true then tb σ H Q else Q (.bl false) H
theorem Lk (h:if z=true then tb σ H Q else Q (.bl false) H):J4 tb σ Q (.bl z) H:=#[_,rfl,h]
def J5 (Q:VK):VK:=λx H=>∃c,x= .bl c/\Q (.bl (!c)) H
theorem Ll (h:Q (.bl (!z)) H):J5 Q (.bl z) H:=#[_,rfl,h]
def NQ (ta tb:TE) (σ:St) (Q:VK):Bool->Hp->Prop:=λc H=>if c=true then ta σ H Q else tb σ H Q
theorem NR (h:if z=true then ta σ H Q else tb σ H Q):NQ ta tb σ Q z H:=h
def Gn (r:R2) (x:V) (Q:VK):VK:=λy H=>r x y H Q
theorem NS (h:r x y H Q):Gn r x Q y H:=h
def Rp (r:R2) (tb:TE) (σ:St) (Q:VK):VK:=λx H=>tb σ H (Gn r x Q)
theorem Qh (h:tb σ H (Gn r x Q)):Rp r tb σ Q x H:=h
def Rq (r:V->Hp->VK->Prop) (Q:VK):VK:=λx H=>r x H Q
theorem Qi (h:ra x H Q):Rq ra Q x H:=h
def Ln (x:V) (QA:List V->Hp->Prop):List V->Hp->Prop:=λxs H=>QA (x::xs) H
theorem NT (h:QA (x::xs) H):Ln x QA xs H:=h
def Rr (tr:TA) (σ:St) (QA:List V->Hp->Prop):VK:=λx H=>tr σ H (Ln x QA)
theorem Qj (h:tr σ H (Ln x QA)):Rr tr σ QA x H:=h
def Rs (r:List V->Hp->VK->Prop) (Q:VK):List V->Hp->Prop:=λvs H=>r vs H Q
theorem Qk (h:rb xs H Q):Rs rb Q xs H:=h
def Rt (sp:Sp) (Q:VK) (E:XK):List V->Hp->Prop:=λvs H=>sp vs H Q E
theorem Ql (h:sp xs H Q E):Rt sp Q E xs H:=h
def Ru (ti:Nm) (x:V) (D:Ends) (σ:St) (i:Nat):VK:=λy H=>ti x y H (II D σ i)
theorem Qm {ti:Nm} (h:ti x y H (II D σ i)):Ru ti x D σ i y H:=h
def RR (Q:VK):List V->Hp->Prop:=λxs H=>xs.length<=sizeLine/\∀p,H p=none->Q (.ref p) (upd H p (.tup xs))
def RS (Q:VK):List V->Hp->Prop:=λxs H=>xs.length<=sizeLine/\∀p,H p=none->Q (.ref p) (upd H p (.lst xs))
def NU (K:UT) (f:Str) (Q:VK):VK:=λx H=>∃a C dx fs v,x= .ref a/\H a=some (.ins C dx fs)/\kW K C/\aO K C f/\fs.lookup f=some v/\Q v H
def IJ (r:V->List V->Hp->VK->Prop) (x:V) (Q:VK):List V->Hp->Prop:=λxs H=>r x xs H Q
theorem NV (h:rc x xs H Q):IJ rc x Q xs H:=h
def Qn (K:UT) (T:String) (r:V->List V->Hp->VK->Prop) (tr:TA) (σ:St) (Q:VK):VK:=λx H=>M7 K T x H/\tr σ H (IJ r x Q)
def Lq (K:UT) (T:String) (r:V->List V->Hp->VK->Prop) (Q:VK):VK:=λx H=>M7 K T x H/\r x [] H Q
theorem Lr {l:KE} (h:H l=some (.lst xs)) (q:rc (.ref l) [] H Q):Lq K "list" rc Q (.ref l) H:=#[.inl #[rfl,_,cB.of h],q]
theorem Lu (q:rc (.str w) [] H Q):Lq K "str" rc Q (.str w) H:=#[rfl,q]
def Rv (K:UT) (R:It->Hp->Prop):VK:=λx H=>∃a,x= .ref a/\(∃xs,cB K H a xs)/\R (Ie K a) H
def Rw (K:UT) (R:It->Hp->Prop):VK:=λx H=>∃a,x= .ref a/\(∃xs,ij K H a xs)/\R (JS K a) H
def Rx (R:It->Hp->Prop):VK:=λv H=>∃x,v= .str x/\R (NC x) H
noncomputable def NW (g:TG) (a:TS) (D:Ends) (σ:St):It->Hp->Prop:=λJ H=>Ak J g a D σ H
theorem NX {J:It} {g:TG} (h:Ak J g a D σ H):NW g a D σ J H:=h
def Lv (sp:Sp) (x:V) (Q:VK) (E:XK):List V->Hp->Prop:=λvs H=>sp (x::vs) H Q E
theorem NY (h:sp (x::xs) H Q E):Lv sp x Q E xs H:=h
def Ry (C:KE) (m:Str) (sp:Sp) (tr:TA) (σ:St) (Q:VK) (E:XK):VK:=λx H=>∃a dx fs,x= .ref a/\H a=some (.ins C dx fs)/\fs.lookup m=none/\tr σ H (Lv sp x Q E)
def Qo (Q:VK) (x:KE):VK:=λv H=>v= .bZ/\Q (.ref x) H
def RT (C:KE) (sp:Sp) (Q:VK) (E:XK):List V->Hp->Prop:=λvs H1=>∀x dx,H1 x=none->H1 dx=none->dx≠x->sp (.ref x::vs) (upd (upd H1 dx (.own x)) x (.ins C dx [])) (Qo Q x) E
def Qp (K:UT) (f:Str) (D:Ends) (σ:St) (y:V):VK:=λx H=>∃a C dx fs,x= .ref a/\H a=some (.ins C dx fs)/\kW K C/\aO K C f/\fs.length<1000/\D.nx σ (upd H a (.ins C dx (gD f y fs)))
def Rz (K:UT) (ta:TE) (f:Str) (D:Ends) (σ:St):VK:=λy H=>ta σ H (Qp K f D σ y)
theorem Qq (h:ta σ H (Qp K f D σ y)):Rz K ta f D σ y H:=h
def Qr (x:V) (Q:VK):VK:=λy H=>∃a v,x= .ref a/\fT H a y (some v)/\Q v H
def RA (te:TE) (σ:St) (Q:VK):VK:=λx H=>te σ H (Qr x Q)
theorem Qs (h:te σ H (Qr x Q)):RA te σ Q x H:=h
def Qt (y:V) (A:Option V->Hp->Prop):VK:=λx H=>∃a o,x= .ref a/\fT H a y o/\A o H
def Qu (td:TE) (σ:St) (A:Option V->Hp->Prop):VK:=λy H=>td σ H (Qt y A)
theorem Qv (h:td σ H (Qt y A)):Qu td σ A y H:=h
def RB (Q:VK):Option V->Hp->Prop:=λo H=>Q (.bl o.isSome) H
theorem Qw (h:Q (.bl o.isSome) H):RB Q o H:=h
def RC (Q:VK):Option V->Hp->Prop:=λo H=>Q (.bl (!o.isSome)) H
theorem Qx (h:Q (.bl (!o.isSome)) H):RC Q o H:=h
def Qy (D:Ends) (σ:St) (v x:V):VK:=λy H=>∃a H4,x= .ref a/\tF H a y v H4/\D.nx σ H4
def Qz (te:TE) (D:Ends) (σ:St) (v:V):VK:=λx H=>te σ H (Qy D σ v x)
theorem QB (h:te σ H (Qy D σ v x)):Qz te D σ v x H:=h
def RE (td te:TE) (D:Ends) (σ:St):VK:=λv H=>td σ H (Qz te D σ v)
theorem QC (h:td σ H (Qz te D σ v)):RE td te D σ v H:=h
def RF (kvs:List (Key×V)) (Q:VK):VK:=λy H=>∃k v,y=kV k/\aY kvs k=some v/\Q v H
def RU (kvs:List (Key×V)) (Q:VK):VK:=λy H=>∃k,y=kV k/\Q (.bl (aY kvs k).isSome) H
def RG (r:V->List V->Hp->VK->Prop) (Q:VK):VK:=λx H=>(∃a,x= .str a)/\r x [] H Q
theorem QD (h:rc (.str w) [] H Q):RG rc Q (.str w) H:=#[#[_,rfl],h]
def QE (r:V->List V->Hp->VK->Prop) (x:V) (Q:VK):VK:=λy H=>r x [y] H Q
theorem QF (h:rc x [y] H Q):QE rc x Q y H:=h
def RH (r:V->List V->Hp->VK->Prop) (te:TE) (σ:St) (Q:VK):VK:=λx H=>(∃a,x= .str a)/\te σ H (QE r x Q)
theorem QG (h:te σ H (QE rc (.str w) Q)):RH rc te σ Q (.str w) H:=#[#[_,rfl],h]
def RI (QO:Option Int->Hp->Prop):VK:=λx H=>∃i,x= .int i/\QO (some i) H
theorem QH (h:QO (some n) H):RI QO (.int n) H:=#[_,rfl,h]
def Lw (r:V->Option Int->Option Int->Hp->VK->Prop) (x:V) (l:Option Int) (Q:VK):Option Int->Hp->Prop:=λu H=>r x l u H Q
theorem NZ {m:Option Int} (h:rs x l m H Q):Lw rs x l Q m H:=h
def Lx (r:V->Option Int->Option Int->Hp->VK->Prop) (th:TO) (σ:St) (x:V) (Q:VK):Option Int->Hp->Prop:=λl H=>th σ H (Lw r x l Q)
theorem N0 (h:th σ H (Lw rs x l Q)):Lx rs th σ x Q l H:=h
def N1 (r:V->Option Int->Option Int->Hp->VK->Prop) (tl th:TO) (σ:St) (Q:VK):VK:=λx H=>tl σ H (Lx r th σ x Q)
theorem N2 (h:tl σ H (Lx rs th σ x Q)):N1 rs tl th σ Q x H:=h
def Ly (r':R2) (tc:TE) (σ:St) (y:V) (Q:VK):VK:=λz H=>∃k,z= .bl k/\(if k=true then tc σ H (Gn r' y Q) else Q (.bl false) H)
theorem N3 (h:if z=true then tc σ H (Gn r' y Q) else Q (.bl false) H):Ly r' tc σ y Q (.bl z) H:=#[_,rfl,h]
def Lz (r r':R2) (tc:TE) (σ:St) (x:V) (Q:VK):VK:=λy H=>r x y H (Ly r' tc σ y Q)
theorem N4 (h:r x y H (Ly r' tc σ y Q)):Lz r r' tc σ x Q y H:=h
def N5 (r r':R2) (tb tc:TE) (σ:St) (Q:VK):VK:=λx H=>tb σ H (Lz r r' tc σ x Q)
theorem N6 (h:tb σ H (Lz r r' tc σ x Q)):N5 r r' tb tc σ Q x H:=h
def RV (R:It->Hp->Prop):List V->Hp->Prop:=λvs H=>∃j:Int,vs=[.int j]/\ -(2^62)<=j/\j<2^62/\R (FM 0 j.toNat) H
def RW (R:It->Hp->Prop):List V->Hp->Prop:=λvs H=>∃i j:Int,vs=[.int i,.int j]/\(-(2^62)<=i/\i<2^62/\ -(2^62)<=j/\j<2^62)/\R (FM i (j - i).toNat) H
def RX (R:It->Hp->Prop):List V->Hp->Prop:=λvs H=>∃(i j c:Int) (n:Nat),vs=[.int i,.int j,.int c]/\NB i j c n/\R (PK i c n) H
end
end L2
end
section
namespace L2
open PySem PySem.Spec PyProof.Rows
noncomputable def Go:List V->Hp->VK->Prop:=λxs H Q=>∃i j,xs=[V.int i,V.int j]/\Q (V.int (if j<i then j else i)) H
noncomputable def Gp:List V->Hp->VK->Prop:=λxs H Q=>∃i j,xs=[V.int i,V.int j]/\Q (V.int (if j>i then j else i)) H
noncomputable def DK (K:UT):List V->Hp->VK->Prop:=λxs H Q=>∃p ys,xs=[.ref p]/\(cB K H p ys\/ij K H p ys)/\Q (.int ys.length) H
theorem oU (h:X.calm=true):eR X (.builtin "min") Go:=Ez h
theorem ie (h:X.calm=true):eR X (.builtin "max") Gp:=Ey h
theorem cu:eR X (.builtin "len") (DK X.K):=xT
section
variable {D:Ends} {σ:St} {H:Hp} {Q:VK} {QT:Bool->Hp->Prop} {QA:List V->Hp->Prop} {a b c:TS} {ta tb tc te:TE} {t u:TT} {tr:TA} {i:Nat} {v x y:V}
theorem tL (h:a (D.sq b) σ H):FJ a b D σ H:=h
theorem LA (h:D.nx σ H):FI D σ H:=h
theorem N7 (h:te σ H (II D σ i)):Cb te (kZ i) D σ H:=h
theorem LB (h:te σ H (J0 D σ)):Dz te D σ H:=h
theorem N8 (h:te σ H D.rt):Ic te D σ H:=h
theorem LC (h:D.rt .bZ H):Nj D σ H:=h
theorem N9 (h:t σ H (Rn a c D σ)):KD t a c D σ H:=h
theorem QI (h:te σ H (kB QT)):tB te σ H QT:=h
theorem IK (h:te σ H (kB QT)):FV te σ H QT:=h
theorem QJ {b:Bool} (h:QT b H):kB QT (V.bl b) H:=#[_,rfl,h]
theorem QK (h:t σ H (Ro u σ QT)):PX t u σ H QT:=h
theorem N_ (h:t σ H (NK u σ QT)):KA t u σ H QT:=h
theorem Oa (h:t σ H (NM QT)):KB t σ H QT:=h
theorem Ob (h:ta σ H (NO tb σ Q)):KC ta tb σ H Q:=h
theorem LD (h:ta σ H (J4 tb σ Q)):FF ta tb σ H Q:=h
theorem LF (h:ta σ H (J5 Q)):JQ ta σ H Q:=h
theorem Oc {b:Bool} {p:Bool->Prop} (h:p b):∃c,(V.bl b)= .bl c/\p c:=#[_,rfl,h]
theorem Od (h:t σ H (NQ ta tb σ Q)):PY t ta tb σ H Q:=h
theorem QL (h:ta σ H (Rp r tb σ Q)):Ih r ta tb σ H Q:=h
theorem QM {r:V->Hp->VK->Prop} (h:ta σ H (Rq r Q)):Px r ta σ H Q:=h
theorem Oe (e:σ[i]? =some (some v)) (h:Q v H):nU i σ H Q:=#[v,e,h]
theorem RY (h:Q v H):tC v σ H Q:=h
theorem Of {g:Int->Int->V} {i j:Int} (h:Q (g i j) H):HQ g (.int i) (.int j) H Q:=#[i,j,rfl,rfl,h]
theorem IL {C:Int->Int->Prop} {g:Int->Int->V} {i j:Int} (c:C i j) (h:Q (g i j) H):rI C g (.int i) (.int j) H Q:=#[i,j,rfl,rfl,c,h]
theorem QN {g:Int->V} {i:Int} (h:Q (g i) H):rU g (.int i) H Q:=#[i,rfl,h]
theorem Og {i j:Int}:decide (V.int i=V.int j)=decide (i=j):=by
 by_cases e:i=j
 .subst e;simp
 .rw [decide_eq_false e,decide_eq_false λz=>e (V.int.inj z)]
theorem Oh {i j:Str}:decide (V.str i=V.str j)=decide (i=j):=by
 by_cases e:i=j
 .subst e;simp
 .rw [decide_eq_false e,decide_eq_false λz=>e (V.str.inj z)]
theorem LG {i j:Int} (h:Q (.bl (decide (i=j))) H):Py (.int i) (.int j) H Q:=#[rfl,by rw [Og];exact h]
theorem LH {i j:Int} (h:Q (.bl (!decide (i=j))) H):M6 (.int i) (.int j) H Q:=#[rfl,by rw [Og];exact h]
theorem LI {i j:Str} (h:Q (.bl (decide (i=j))) H):Py (.str i) (.str j) H Q:=#[rfl,by rw [Oh];exact h]
theorem LJ {i j:Str} (h:Q (.bl (!decide (i=j))) H):M6 (.str i) (.str j) H Q:=#[rfl,by rw [Oh];exact h]
theorem Oi {p:Prop} [Decidable p] {a b:Prop} (h:if p then a else b):if decide p=true then a else b:=by
 by_cases e:p
 .rw [if_pos (decide_eq_true e)];rwa [if_pos e] at h
 .rw [if_neg (λz=>e (of_decide_eq_true z))];rwa [if_neg e] at h
theorem LK {p:Prop} [Decidable p] {a b:Prop} (h:if p then b else a):if (!decide p)=true then a else b:=by
 by_cases e:p
 .rw [decide_eq_true e,if_neg (by simp)];rwa [if_pos e] at h
 .rw [decide_eq_false e,if_pos (by simp)];rwa [if_neg e] at h
theorem Oj (h:QA [] H):ly σ H QA:=h
theorem LL (h:ta σ H (Rr tr σ QA)):fN ta tr σ H QA:=h
theorem QP {r:List V->Hp->VK->Prop} (h:tr σ H (Rs r Q)):Pz r tr σ H Q:=h
theorem LM (h:tr σ H (Rt sp Q E)):tp sp [] E tr σ H Q:=by
 have e:(λvs H1=>sp (vs++[]) H1 Q E)=λvs H1=>sp vs H1 Q E:=by funext vs H1;rw [Td]
 show tr σ H λvs H1=>sp (vs++[]) H1 Q E;rw [e];exact h
theorem Ol (e:σ[i]? =some (some x)) (h:te σ H (Ru ti x D σ i)):KI i te ti D σ H:=#[x,e,h]
theorem Om {f:Int->Int->Int} {i j:Int} (h:Q (.int (f i j)) H):Pw f (.int i) (.int j) H Q:=#[i,j,rfl,rfl,h]
theorem On (h:tr σ H (RR Q)):F0 tr σ H Q:=h
theorem Oo (h:tr σ H (RS Q)):F1 tr σ H Q:=h
theorem Op {K:UT} {f:Str} (h:ta σ H (NU K f Q)):EC K ta f σ H Q:=h
theorem ay {K:UT} {f:Str} {p C dx:KE} {fs:List (Str×V)} (h:H p=some (.ins C dx fs)) (c:kW K C) (n:aO K C f) (l:fs.lookup f=some v) (q:Q v H):
 NU K f Q (.ref p) H:=#[p,C,dx,fs,v,rfl,h,c,n,l,q]
theorem J7 {K:UT} {p:KE} {xs:List V} {i:Int} (h:ij K H p xs) (e:Co xs i=some v) (q:Q v H):Ir K (.ref p) (.int i) H Q:=#[p,xs,i,v,rfl,rfl,h,e,q]
theorem oW {K:UT} {p:KE} {xs:List V} {i:Int} (h:cB K H p xs) (e:Co xs i=some v) (q:Q v H):F7 K (.ref p) (.int i) H Q:=#[p,xs,i,v,rfl,rfl,h,e,q]
theorem Oq {i j:Int} (h:Q (.int (min i j)) H):Go [.int i,.int j] H Q:=#[i,j,rfl,by
 have e:(if j<i then j else i)=min i j:=by split<;>omega
 rw [e];exact h]
theorem Os {i j:Int} (h:Q (.int (max i j)) H):Gp [.int i,.int j] H Q:=#[i,j,rfl,by
 have e:(if j>i then j else i)=max i j:=by split<;>omega
 rw [e];exact h]
theorem LN {p:KE} {xs:List V} {K:UT} (h:cB K H p xs) (q:Q (.int xs.length) H):DK K [.ref p] H Q:=#[p,xs,rfl,.inl h,q]
theorem QQ {K:UT} {T:String} {r:V->List V->Hp->VK->Prop} (h:ta σ H (Qn K T r tr σ Q)):PD K T r ta tr σ H Q:=h
theorem bN (h:H l=some (.lst xs)) (hz:xs.length<sizeLine) (q:Q .bZ (upd H l (.lst (xs++[y])))):oM (.ref l) [y] H Q:=#[l,xs,y,rfl,rfl,h,hz,q]
theorem Ot {K:UT} {l:KE} {xs:List V} {r:V->List V->Hp->VK->Prop} (h:H l=some (.lst xs)) (q:tr σ H (IJ r (.ref l) Q)):Qn K "list" r tr σ Q (.ref l) H:=#[.inl #[rfl,_,cB.of h],q]
theorem IM {K:UT} {R:It->Hp->Prop} (h:ta σ H (Rv K R)):FN K ta σ H R:=h
theorem Ou (h:wi σ H (NW g a D σ)):KM wi g a D σ H:=h
theorem IN {QS:St->Hp->Prop} (h:QS (σ.set i (some v)) H):kZ i v σ H QS:=h
theorem IP (h:Cz t a D σ H):xN t a D σ H:=h
theorem IQ (h:E (.ref C) none H):Cy C E D σ H:=h
theorem LO (h:ta σ H (Ry C m sp tr σ Q E)):ww C m sp [] E ta tr σ H Q:=by
 have e:(λx H1=>∃a dx fs,x=V.ref a/\H1 a=some (.ins C dx fs)/\fs.lookup m=none/\tr σ H1 λvs H2=>sp (x::(vs++[])) H2 Q E)=λx H1=>∃a dx fs,x=V.ref a/\H1 a=some (.ins C dx fs)/\fs.lookup m=none/\tr σ H1 λvs H2=>sp (x::vs) H2 Q E:=by funext x H1;simp only [Td]
 show ta σ H λx H1=>∃a dx fs,x=V.ref a/\H1 a=some (.ins C dx fs)/\fs.lookup m=none/\tr σ H1 λvs H2=>sp (x::(vs++[])) H2 Q E;rw [e];exact h
theorem br (h:H p=some (.ins C dx fs)) (l:fs.lookup m=none) (q:tr σ H (Lv sp (.ref p) Q E)):Ry C m sp tr σ Q E (.ref p) H:=#[p,dx,fs,rfl,h,l,q]
end
theorem IR {α:Type} {f:List UU->α} {g:List (Str×UU)->α} (h:∀x0,f [x0]=g [(a0,x0)]):∀us:List UU,us.length=[a0].length->f us=g ([a0].zip us)
 |[x0],_=>h x0
 |[],h=>nomatch h
 |_::_::_,h=>nomatch h
theorem Ov {α:Type} {f:List UU->α} {g:List (Str×UU)->α} (h:∀x0 x1,f [x0,x1]=g [(a0,x0),(a1,x1)]):∀us:List UU,us.length=[a0,a1].length->f us=g ([a0,a1].zip us)
 |[x0,x1],_=>h x0 x1
 |[],h=>nomatch h
 |[_],h=>nomatch h
 |_::_::_::_,h=>nomatch h
theorem M_ {α:Type} {f:List UU->α} {g:List (Str×UU)->α} (h:∀x0 x1 x2,f [x0,x1,x2]=g [(a0,x0),(a1,x1),(a2,x2)]):∀us:List UU,us.length=[a0,a1,a2].length->f us=g ([a0,a1,a2].zip us)
 |[x0,x1,x2],_=>h x0 x1 x2
 |[],h=>nomatch h
 |[_],h=>nomatch h
 |[_,_],h=>nomatch h
 |_::_::_::_::_,h=>nomatch h
theorem Ow {α:Type} {f:List UU->α} {g:List (Str×UU)->α} (h:∀x0 x1 x2 x3,f [x0,x1,x2,x3]=g [(a0,x0),(a1,x1),(a2,x2),(a3,x3)]):∀us:List UU,us.length=[a0,a1,a2,a3].length->f us=g ([a0,a1,a2,a3].zip us)
 |[x0,x1,x2,x3],_=>h x0 x1 x2 x3
 |[],h=>nomatch h
 |[_],h=>nomatch h
 |[_,_],h=>nomatch h
 |[_,_,_],h=>nomatch h
 |_::_::_::_::_::_,h=>nomatch h
theorem Ox {α:Type} {f:List UU->α} {g:List (Str×UU)->α} (h:∀x0 x1 x2 x3 x4,f [x0,x1,x2,x3,x4]=g [(a0,x0),(a1,x1),(a2,x2),(a3,x3),(a4,x4)]):∀us:List UU,us.length=[a0,a1,a2,a3,a4].length->f us=g ([a0,a1,a2,a3,a4].zip us)
 |[x0,x1,x2,x3,x4],_=>h x0 x1 x2 x3 x4
 |[],h=>nomatch h
 |[_],h=>nomatch h
 |[_,_],h=>nomatch h
 |[_,_,_],h=>nomatch h
 |[_,_,_,_],h=>nomatch h
 |_::_::_::_::_::_::_,h=>nomatch h
end L2
end
section
namespace L2
open PySem PySem.Spec PyProof.Rows
section
variable {M:Model} {A:Tl} {E:UU->Se->Prop} {s:Se}
theorem Gq {Q:Unit->Se->Prop} (hfr:A.frames=some (env::outer)) (hl:s.heap.FunFrames base (env::outer)) (hf:env.frame=some L)
 (ht:s.heap.TracedAtW base e cls a0 fl) (hkb:base.StaysIn s.heap) (hen:base.get? e=none) (h:∀h',Ti.HeldW base (env::outer) e cls a0 L h'->s.heap.UpToSlots h'->Q () {s with heap:=h'}):wpAny M A (noteFrame (.ref e) env) Q E s:=by
 by_cases c:fl=rawInt L
 .subst c;exact wpAny_noteFrame_againW hf ht (h s.heap #[hkb,hen,hl,ht] (.refl _))
 .obtain ⟨oe,vs,T,oT,ts,he,⟨hcls,h0⟩,hd,h1,hnT,hTe,hT,hdT,h3⟩:=ht;subst hcls;unfold noteFrame;simp only [hf];refine Su (wpAny_field he hd h1 ?_);rw [if_pos (by simp:(Sy T !=Uy)=true)];refine Su (wpAny_field hT hdT h3 ?_);rw [if_neg (by simpa using c:¬((fl==rawInt L)=true))];refine Su (wpAny_setField hT hdT (Array.getElem?_eq_some_iff.mp h3).1 ?_);have oth:∀b,b≠T->(s.heap.update T (Obj.mapFields (·.setIfInBounds 3 Uy))).get? b=s.heap.get? b:=λb hb=>Ti.get?_update_other _ _ (Ne.symm hb);have nr:∀b o,s.heap.get? b=some o->(∀vs,o.data≠.fields vs)->b≠T:=λb o hb hnf q=>by rw [q,hT] at hb;cases hb;exact hnf ts hdT
  refine wpAny_entryW hfr (hl.of_keeps λb o hb hnf=>#[o,by rw [oth b (nr b o hb hnf)];exact hb,rfl]) hf (by rw [oth e (Ne.symm hTe)];exact he) (λb o hbo=>?_) hen hd (Array.getElem?_eq_some_iff.mp h1).1 h0 λh' x=>?_
  .rw [oth b λq=>by rw [q,hnT] at hbo;cases hbo];exact hkb b o hbo
  .obtain ⟨x1,x2,x3,x4⟩:=x;exact h h' #[x1,hen,x2,x3] λb o hb hnf=>x4 b o (by rw [oth b (nr b o hb hnf)];exact hb) hnf
theorem EO {Q:Unit->Se->Prop} (hfr:A.frames=some (env::outer)) (hl:s.heap.FunFrames base (env::outer)) (hf:env.frame=some L)
 (ht:s.heap.TracedAtW base e cls a0 fl) (hkb:base.StaysIn s.heap) (hen:base.get? e=none) (h:∀h',Ti.FlyingW base outer e cls a0 h'->s.heap.UpToSlots h'->Q () {s with heap:=h'}):wpAny M A (leaving env (.ref e)) Q E s:=by
 unfold leaving;refine Su (Gq hfr hl hf ht hkb hen λh1 held up1=>?_);refine wpAny_landsW held λh2 fl up2=>?_;obtain ⟨k1,k2,⟨_,_,k3⟩,k4⟩:=fl;exact h h2 #[k1,k2,k3,k4] (up1.trans up2)
theorem CF {Q:Unit->Se->Prop} (hkb:base.StaysIn s.heap) (hl:s.heap.FunFrames base l) (ht:s.heap.TracedAtW base e cls a0 fl)
 (h:∀h',base.StaysIn h'->h'.FunFrames base l->h'.TracedAtW base e cls a0 (fr.elim Uy λf=>rawInt f)->s.heap.UpToSlots h'->Q () {s with heap:=h'}):wpAny M A (setFlight (.ref e) fr) Q E s:=by
 obtain ⟨oe,vs,T,oT,ts,he,hcls,hd,h1,hnT,hTe,hT,hdT,h3⟩:=ht;have hz:3<ts.size:=(Array.getElem?_eq_some_iff.mp h3).1;have oth:∀b,b≠T->(s.heap.update T (Obj.mapFields (·.setIfInBounds 3 (fr.elim Uy λf=>rawInt f)))).get? b=s.heap.get? b:=λb hb=>Ti.get?_update_other _ _ (Ne.symm hb);have nr:∀b o,s.heap.get? b=some o->(∀vs,o.data≠.fields vs)->b≠T:=λb o hb hnf q=>by rw [q,hT] at hb;cases hb;exact hnf ts hdT
 unfold setFlight;refine Su (wpAny_field he hd h1 ?_);rw [if_pos (by simp:(Sy T !=Uy)=true)];refine wpAny_setField hT hdT hz (h _ (λb o hbo=>?_) (hl.of_keeps λb o hb hnf=>#[o,by rw [oth b (nr b o hb hnf)];exact hb,rfl]) ?_ λb o hb hnf=>#[o.slots,by rw [oth b (nr b o hb hnf)];exact hb])
 .rw [oth b λq=>by rw [q,hnT] at hbo;cases hbo];exact hkb b o hbo
 .exact #[oe,vs,T,_,_,by rw [oth e (Ne.symm hTe)];exact he,hcls,hd,h1,hnT,hTe,Ti.get?_update_self _ hT (Obj.isFreed_of_fields (Obj.data_mapFields hdT _)),Obj.data_mapFields hdT _,by simp [hz]]
theorem Gr {Q:UU->Se->Prop} {what:String} (hkb:base.StaysIn s.heap) (hl:s.heap.FunFrames base l) (ht:s.heap.TracedAtW base e cls a0 fl)
 (h:∀h' fl',base.StaysIn h'->h'.FunFrames base l->h'.TracedAtW base e cls a0 fl'->s.heap.UpToSlots h'->E (.ref e) {s with heap:=h'}):wpAny M A (PySem.passOn what (.ref e) env:Sem UU) Q E s:=by
 unfold PySem.passOn;have ht':=ht;obtain ⟨oe,vs,T,oT,ts,he,hcls,hd,h1,hnT,hTe,hT,hdT,h3⟩:=ht';refine Su (wpAny_field he hd h1 ?_);rw [if_neg (by simp:¬(Sy T==Uy)=true)];refine Su (CF hkb hl ht λh' k1 k2 k3 k4=>?_);exact wpAny_throw (h h' _ k1 k2 k3 k4)
end
def wH (X:Cx) (E:XK):Prop:=∀(pins:List (KE×Obj)) (σ:St) (H:Hp) (s:Se) (ea C:KE) (B:Ti) (a0 fl:UU),Inv X pins σ H s->B.StaysIn s.heap->B.get? ea=none->s.heap.FunFrames B X.stack->s.heap.TracedAtW B ea (.ref C) a0 fl->
 lD (j0 X.stack) X.sr.heap H s.heap B->E (.ref C) none H->X.xe (.ref ea) s
theorem DL {P:SN} {w:S_} {K:UT} {mg:Str->Option UU} {base:Ti} {N:List Str} {qual:Str} {scope:Uz} {f:KE} {cd:UU} {A:Tl} {outer:List Env} {s0:Se} {H0:Hp} {E:XK}:
 wH (fj (cf P w) P w K mg base N qual scope f cd A outer s0 H0 E) E:=by
 intro pins σ H s ea C B a0 fl J k1 k2 k3 k4 Aj q;exact EO (A:=(fj (cf P w) P w K mg base N qual scope f cd A outer s0 H0 E).A) J.ok.frames k3 rfl k4 k1 k2 λh' fl' up=>Cw J Aj fl' up q
theorem tM (sb:Ti.SameBut C h h'):∀{l:List Env},h.FunFrames B l->(∀b∈j0 l,b≠C)->h'.FunFrames (TZ B [C]) l
 |[],_,_=>trivial
 |env::r,⟨hk,⟨L,o,hf,hn,ho,hd⟩,hr⟩,hne=>by
  have hL:L≠C:=hne L (by unfold j0;rw [UK,hf];exact Sk);refine #[hk,#[L,o,hf,?_,(sb.2 L hL).trans ho,hd],tM sb hr λb hb=>hne b (by unfold j0;rw [UK,hf];exact Sh _ hb)];cases q:(TZ B [C]).get? L with
  |none=>rfl
  |some u=>rw [UL _ q] at hn;cases hn
section
variable {X:Cx}
theorem Gs {Qf:UU->Se->Prop} (hx:wH X E) (hex:X.ex=[]) (hst:X.stack=X.env::X.outer) (hfr:X.env.frame=some X.env.locals)
 (I3:Inv X pins σ H3 s3) (hce:ce.frame=X.env.frame) (cL:ce.locals=s3.heap.objs.size) (f3:∀b∈fp,ke X pins H3 b/\b<s3.heap.objs.size):
 Passes (cf X.prog X.w) {X.PJ s3 H3 scope ce fp with xe:=notedBy (model X.prog X.w) X.A ce λe s'=>compPost (model X.prog X.w) X.A X.xe use Qf (.ref D) s3.heap.objs.size (.error e) s'} E:=by
 intro pins' σ' H' s e s' I' h;obtain ⟨ea,C,H2,B,a0,rfl,os,bare,un,a7,fl,Aj,q⟩:=h;have un:Un (j0 X.stack) [] H' H2 s.heap s'.heap:=un;have a7:iO X.prog X.w H2 s'.heap:=a7;have fl:Ti.FlyingW B X.stack ea (.ref C) a0 s'.heap:=fl;have Aj:lD (j0 X.stack) s.heap H2 s'.heap B:=Aj;have J:=I'.wr (ch:=[]) os un a7 bare λb z=>absurd z (by simp);have nC:H2 s3.heap.objs.size=none:=by rw [<-cL];exact J.free
 have hN:∃m,s'.heap.Ns s3.heap.objs.size m:=by obtain ⟨m,hn,_⟩:=J.loc;rw [<-cL];exact #[m,hn]
 obtain ⟨m,hn⟩:=hN;have en:noteFrame (.ref ea) ce=noteFrame (.ref ea) X.env:=by unfold noteFrame PySem.frameOf;rw [hce]
 show wpAny (model X.prog X.w) X.A (noteFrame (.ref ea) ce) _ _ s';rw [en];refine wpAny_looks_onW (outer:=X.outer) (by rw [<-hst];exact I3.ok.frames) hfr (by rw [<-hst];exact fl) λh4 held up4=>?_;rw [<-hst] at held;obtain ⟨g1,g2,g3,g4⟩:=held;have nfr:∀b∈j0 X.stack,b≠s3.heap.objs.size:=λb hb z=>by obtain ⟨_,o,ho,_⟩:=I3.stack.mem hb;rw [z] at ho;exact Tr _ (SK ho)
 have res:∃m,h4.Ns s3.heap.objs.size m/\∀h',Ti.SameBut s3.heap.objs.size h4 h'->∀cenv:Env,cenv.locals=s3.heap.objs.size->wpAny (model X.prog X.w) X.A (PySem.passOn "comprehension.variables-let-go" (.ref ea) cenv:Sem UU) (λ_ _=>False) X.xe {s' with heap:=h'}:=by
  refine #[m,up4.ns hn,λh5 sb cenv _=>?_];generalize hCd:s3.heap.objs.size=Cd at*;have hB5:(TZ B [Cd]).StaysIn h5:=λb o e=>by
   have hb:b≠Cd:=λz=>by rw [z,PySem.W.hideAll_none [Cd] ((SB).mpr rfl)] at e;cases e
   exact (sb.2 b hb).trans (g1 b o (UL _ e))
  have hBn:∀{b},B.get? b=none->(TZ B [Cd]).get? b=none:=λ{b} e=>by
   cases q:(TZ B [Cd]).get? b with
   |none=>rfl
   |some u=>rw [UL _ q] at e;cases e
  have ht5:h5.TracedAtW (TZ B [Cd]) ea (.ref C) a0 (rawInt X.env.locals):=by
   obtain ⟨oe,vs,T,oT,ts,he,hcls,hd,h1,hnT,hTe,hT,hdT,h3⟩:=g4;obtain ⟨oC,es,ep,hoC,hdC,_⟩:=up4.ns hn;have n1:ea≠Cd:=λz=>by rw [z,hoC] at he;cases he;rw [hdC] at hd;cases hd
   have n2:T≠Cd:=λz=>by rw [z,hoC] at hT;cases hT;rw [hdC] at hdT;cases hdT
   exact #[oe,vs,T,oT,ts,(sb.2 ea n1).trans he,hcls,hd,h1,hBn hnT,hTe,(sb.2 T n2).trans hT,hdT,h3]
  refine Gr hB5 (tM sb g3 nfr) ht5 λh6 fl6 k1 k2 k3 k4=>?_;have there3:∀b o,s3.heap.get? b=some o->b∉fp->b≠Cd/\∃o',s'.heap.get? b=some o'/\(b∉j0 X.stack->B.get? b=some o'):=λb o e hb=>by obtain ⟨o1,e1⟩:=I'.base.there b o e hb;obtain ⟨o2,e2⟩:=un.there b o1 e1 (by simp);exact #[by rw [<-hCd];exact Tu (SK e),o2,e2,λhf=>Aj b o2 e2 hf (.inl #[o1,e1])]
  have toB:∀b o,s'.heap.get? b=some o->b∉j0 X.stack->b≠Cd->B.get? b=some o->h6.get? b=some o/\(TZ B [Cd]).get? b=some o:=λb o e hf hb q=>by have q':=PySem.W.hideAll_get [Cd] q (by simpa using hb);exact #[k1 b o q',q']
  have slotB:∀b∈j0 X.stack,∀o,s'.heap.get? b=some o->∃sl,h6.get? b=some {o with slots:=sl}:=λb hb o e=>by obtain ⟨_,o',ho',hnf⟩:=fl.2.2.1.mem hb;rw [e] at ho';cases ho';obtain ⟨sl,e4⟩:=up4 b o e hnf;obtain ⟨sl',e6⟩:=k4 b _ ((sb.2 b (nfr b hb)).trans e4) hnf;exact #[sl',e6]
  have uAll:Un (j0 X.stack) fp H3 H2 s3.heap s'.heap:=J.base;have u6:Un (j0 X.stack) fp H3 H2 s3.heap h6:=by
   refine #[λb o e n hb hx=>?_,λb o e n hb hx=>?_,uAll.free,λb o e hx=>?_,uAll.mR,uAll.p_,uAll.qa]
   .obtain ⟨hne,o',e',hB⟩:=there3 b o e hx;have e2:=uAll.keep b o e n hb hx;rw [e'] at e2;cases e2;exact (toB b _ e' hb hne (hB hb)).1
   .obtain ⟨sl,e2⟩:=uAll.slot b o e n hb hx;obtain ⟨sl',e6⟩:=slotB b hb _ e2;exact #[sl',e6]
   .obtain ⟨hne,o',e',hB⟩:=there3 b o e hx;by_cases hb:b∈j0 X.stack
    .obtain ⟨sl,e6⟩:=slotB b hb _ e';exact #[_,e6]
    .exact #[_,(toB b _ e' hb hne (hB hb)).1]
  have nf2:∀b∈j0 X.stack,H2 b=none:=λb hb=>by obtain ⟨_,o,ho,_⟩:=I'.stack.mem hb;exact un.free b o ho (I'.my b hb) (by simp)
  have Ku:∀b,H2 b≠none->b≠Cd/\b∉j0 X.stack:=λb z=>#[λw=>z (by rw [w];exact nC),λw=>z (nf2 b w)];have hok6:iO X.prog X.w H2 h6:=λa o e=>by
   refine (a7 a o e).vp (λb u hb q=>?_) (λ_ q=>q) λ_ _ q=>q;have hne:H2 b≠none:=by
    rcases hb with rfl|hb
    .rw [e];exact λz=>nomatch z
    .rw [hb];exact λz=>nomatch z
   obtain ⟨n1,n2⟩:=Ku b hne;exact (toB b u q n2 n1 (Aj b u q n2 (.inr hne))).1
  have J6:Inv X pins σ H2 {s' with heap:=h6}:=I3.wr (ch:=fp) (by show s'.os=_;rw [os,I'.os]) u6 hok6 bare λb hb=>#[(f3 b hb).1.2.2.2.1,(f3 b hb).1.2.1,(f3 b hb).1.2.2.2.2.1,(f3 b hb).1.2.2.2.2.2];refine hx pins σ H2 _ ea C (TZ B [Cd]) a0 fl6 J6 k1 (hBn g2) k2 k3 (λb o e hb hc=>?_) q;have key:∃o',s'.heap.get? b=some o'/\b≠Cd/\B.get? b=some o':=by
   rcases hc with ⟨o0,z⟩|z
   .obtain ⟨o3,e3⟩:=I3.base.there b o0 z (by rw [hex];simp);have nfp:b∉fp:=λhm=>by
     rcases (f3 b hm).1.2.2.2.1 with w|w
     .rw [hex] at w;cases w
     .exact Tr _ (SS (SK z) w)
    obtain ⟨hne,o',e',hB⟩:=there3 b o3 e3 nfp;exact #[o',e',hne,hB hb]
   .obtain ⟨n1,n2⟩:=Ku b z;cases w:H2 b with
    |none=>exact absurd w z
    |some u=>obtain ⟨o1,e1⟩:=(a7 b u w).here;exact #[o1,e1,n1,Aj b o1 e1 n2 (.inr z)]
  obtain ⟨o',e',hne,hB⟩:=key;obtain ⟨e6,q'⟩:=toB b o' e' hb hne hB;have e:h6.get? b=some o:=e;rw [e6] at e;cases e;exact q'
 cases use<;>exact res
noncomputable abbrev Cx.jg (X:Cx) (s:Se) (H:Hp) (scope:Uz) (cenv:Env) (fp:List KE) (Ex:UU->Se->Prop):Cx:={X.PJ s H scope cenv fp with xe:=Ex}
theorem An {own:List (Str×Nat)} {Qf:UU->Se->Prop}
 (hx:wH X E) (hex:X.ex=[]) (hst:X.stack=X.env::X.outer) (hfr:X.env.frame=some X.env.locals) (hc:X.calm=true) (hN:X.N.Nodup) (I:Inv X pins σ H s) (hi:PI X tg iter wi) (ok:ni X.N X.env.scope scope own)
 (hg:∀(s:Se) (H:Hp) (C:KE) (cl:List (Str×KE)) (fp:List KE) (Ex:UU->Se->Prop),PG (X.jg s H scope (compEnvC scope cl C X.env) fp Ex) tg g)
 (ht:∀(s:Se) (H:Hp) (C:KE) (cl:List (Str×KE)) (fp:List KE) (Ex:UU->Se->Prop),Nv (X.jg s H scope (compEnvC scope cl C X.env) fp Ex) ifs tt)
 (he:∀(s:Se) (H:Hp) (C:KE) (cl:List (Str×KE)) (fp:List KE) (Ex:UU->Se->Prop),Passes (cf X.prog X.w) (X.jg s H scope (compEnvC scope cl C X.env) fp Ex) E->PE (X.jg s H scope (compEnvC scope cl C X.env) fp Ex) elt te)
 (hs:∀x,foldedSetIterable iter X.env x=pure x) (h:M8 wi g tt te (own.map (·.2)) σ H Q)
 (hRR:∀D C s' m H',Inv X pins σ H' s'->Q (.ref D) H'->s'.heap.Ns C m->ke X pins H' C->compPost (model X.prog X.w) X.A X.xe use Qf (.ref D) C (.ok .next) s'):
 wpAny (model X.prog X.w) X.A (comprehension (.ListComp elt [#[tg,iter,ifs,0]] scope pos) scope X.env pos' (newList []) false (eval iter X.env) use) Qf X.xe s:=by
 have hfree:∀y∈scope.names,y.2= .free->∃c,X.env.cells.lookup y.1=some c:=λy hy e=>by
  rcases ok.free y hy e with k|k
  .exact I.ok.has _ (.inl k)
  .exact I.ok.has _ (.inr k)
 refine wpAny_comprehension_free (use:=use) rfl hs (Cs hfree) ok.kind (λy hy e=>by rw [ok.uniq y hy,e])
  (ci (hi pins s σ H _ I h) λxv s1 hi1=>ci hi1 λitv s2 h2=>?_)
 obtain ⟨it,fp,tn,J,H2,e,I2,T,st2,f2,q⟩:=h2;subst e;refine wpAny_newObj_type (z9 ?_) (by show 0<=sizeLine;decide);generalize hD:s2.heap.objs.size=D;have hDn:H2 D=none:=I2.a7.fresh (Nat.le_of_eq hD);obtain ⟨W,⟨m0,w0⟩,turn⟩:=q D hDn;generalize hs3:({s2 with heap:=s2.heap.push {cls:=.type "list",data:=.seq ([]:List UU).toArray}}:Se)=s3;have I3:Inv X pins σ (upd H2 D (.lst [])) s3:=by rw [<-hs3];refine I2.laid (t':=s2.toks) (λb o e=>Sn _ e) (Nat.le_of_eq hD) #[SW _,[],0,.nil,?_];rw [<-hD];exact SL _ rfl
 have h3:s3.heap=s2.heap.push {cls:=.type "list",data:=.seq ([]:List UU).toArray}:=by rw [<-hs3]
 have sz:∀b∈fp,b<s2.heap.objs.size:=λb hb=>by obtain ⟨o,e,_⟩:=T.obj _ _ st2 b hb;exact SK e
 have f3:∀b∈fp,ke X pins (upd H2 D (.lst [])) b/\b<s3.heap.objs.size:=λb hb=>by have hlt:=sz b hb;refine #[#[?_,(f2 b hb).2],by rw [h3,TQ];exact Nat.lt_succ_of_lt hlt];rw [ai (by rw [<-hD];exact Tu hlt)];exact (f2 b hb).1
 have st3:tn 0 s3.heap:=T.keep _ _ _ st2 λb _ o e=>by rw [h3];exact Sn _ e
 have I4:=z_ I3 ok hN f3;generalize hcl:cellsFrom (s3.heap.objs.size+1) scope.names (cY X.env.cells scope.names [])=cl at I4;show codeAny _ _ (.compStart (.ListComp elt [⟨tg,iter,ifs,0⟩] scope pos) 0 (.ref it) (.ref D) (compEnvC scope cl s3.heap.objs.size X.env)) (compPost (model X.prog X.w) X.A X.xe use Qf (.ref D) s3.heap.objs.size) {s3 with heap:=pushCells (s3.heap.push {cls:=.type "dict",data:=.dict #[]}) scope.names};have nfp:∀b∈fp,(upd H2 D (.lst [])) b=none:=λb hb=>(f3 b hb).1.1;generalize hH3:upd H2 D (.lst [])=H3 at I3 I4 w0 nfp f3;generalize hs4:({s3 with heap:=pushCells (s3.heap.push {cls:=.type "dict",data:=.dict #[]}) scope.names}:Se)=s4 at I4 ⊢;have st4:tn 0 s4.heap:=T.keep _ _ _ st3 λb _ o e=>by rw [<-hs4];exact pushCells_keeps _ _ _ _ (Sn _ e)
 have ps:=Gs (use:=use) (Qf:=Qf) (D:=D) (scope:=scope) (ce:=compEnvC scope cl s3.heap.objs.size X.env) hx hex hst hfr I3 rfl rfl f3;have pg:=hg s3 H3 s3.heap.objs.size cl fp (notedBy (model X.prog X.w) X.A (compEnvC scope cl s3.heap.objs.size X.env) λe s'=>compPost (model X.prog X.w) X.A X.xe use Qf (.ref D) s3.heap.objs.size (.error e) s');have pt:=ht s3 H3 s3.heap.objs.size cl fp (notedBy (model X.prog X.w) X.A (compEnvC scope cl s3.heap.objs.size X.env) λe s'=>compPost (model X.prog X.w) X.A X.xe use Qf (.ref D) s3.heap.objs.size (.error e) s');have pe:=he s3 H3 s3.heap.objs.size cl fp (notedBy (model X.prog X.w) X.A (compEnvC scope cl s3.heap.objs.size X.env) λe s'=>compPost (model X.prog X.w) X.A X.xe use Qf (.ref D) s3.heap.objs.size (.error e) s') ps;generalize hEx:(notedBy (model X.prog X.w) X.A (compEnvC scope cl s3.heap.objs.size X.env) λe s'=>compPost (model X.prog X.w) X.A X.xe use Qf (.ref D) s3.heap.objs.size (.error e) s')=Ex at pg pt pe;generalize hce:compEnvC scope cl s3.heap.objs.size X.env=ce at I4 pg pt pe hEx ⊢;have cL:ce.locals=s3.heap.objs.size:=by subst hce;rfl
 have I4:Inv (X.jg s3 H3 scope ce fp Ex) [] (wipe σ (own.map (·.2))) H3 s4:=I4.rK _;have stat:∀{σ':St} {H':Hp} {s':Se},Inv (X.jg s3 H3 scope ce fp Ex) [] σ' H' s'->(∀b∈fp,H' b=none)->∀b∈fp,ke (X.jg s3 H3 scope ce fp Ex) [] H' b:=λ{σ' H' s'} I' hn b hb=>#[hn b hb,(I'.ok.M5 b hb).1,I'.ok.Ca b hb,.inl hb,λx c e=>(I'.ok.M5 b hb).2 x c e,λp hp=>absurd (show p∈([]:List (KE×Obj))++[] from hp) (by simp)]
 have loop:codeAny (model X.prog X.w) X.A (.compLoop (.ListComp elt [⟨tg,iter,ifs,0⟩] scope pos) 0 (.ref it) (.ref D) ce) (compPost (model X.prog X.w) X.A X.xe use Qf (.ref D) s3.heap.objs.size) s4:=by
  refine xY (λn s'=>∃i H',Inv (X.jg s3 H3 scope ce fp Ex) [] (wipe σ (own.map (·.2))) H' s'/\tn i s'.heap/\(∀b∈fp,H' b=none)/\W i n H') ?_ m0 #[0,H3,I4,st4,nfp,w0];rw [hEx];rintro n s5 ⟨i,H5,I5,st5,n5,w5⟩;rcases turn i n H5 w5 with ⟨stop,qq⟩|⟨go,Nx,hNx,step⟩
  .have td:=T.done (X.jg s3 H3 scope ce fp Ex) rfl rfl rfl hc i [] s5 _ H5 (λ_ _=>False) I5 (stat I5 n5) st5 stop;refine K_ td λr s6 zq=>?_;obtain ⟨hr,I6⟩:=zq;subst hr;have I7:Inv X pins σ H5 s6:=I3.wr (ch:=fp) I6.os I6.base I6.a7 I6.bare λb hb=>#[(f3 b hb).1.2.2.2.1,(f3 b hb).1.2.1,(f3 b hb).1.2.2.2.2.1,(f3 b hb).1.2.2.2.2.2];have nC:H5 s3.heap.objs.size=none:=by have z:H5 ce.locals=none:=I6.free;rw [cL] at z;exact z
   obtain ⟨m,hn,_⟩:=I6.loc;have hn:s6.heap.Ns ce.locals m:=hn;rw [cL] at hn;exact hRR D s3.heap.objs.size s6 m H5 I7 qq hn (I3.Cc (Sf _) nC)
  .have ti:=T.item (X.jg s3 H3 scope ce fp Ex) rfl rfl rfl hc i [] s5 _ H5 (λ_ _=>False) I5 (stat I5 n5) st5 go;refine K_ ti λr s6 zq=>?_;obtain ⟨u,hr,h6⟩:=zq;subst hr;refine K_ h6 λ_ s7 zq=>?_;obtain ⟨x,H7,I7,r7,y7,st7,n7⟩:=zq;have I7':=I7.pinned (stat I7 n7) (T.obj _ _ st7);refine ci (pg _ s7 _ H7 x u _ I7' r7 (step x H7 y7)) λ_ s8 zq=>?_;obtain ⟨σ8,H8,I8,hw8,q8⟩:=zq;refine ci (pt _ s8 σ8 H8 _ I8 q8) λb s9 zq=>?_;obtain ⟨H9,I9,q9⟩:=zq;have fin:∀{s':Se} {H':Hp},Inv (X.jg s3 H3 scope ce fp Ex) ([]++sY fp s7.heap) σ8 H' s'->Nx H'->∃m,m<n/\∃i H',Inv (X.jg s3 H3 scope ce fp Ex) [] (wipe σ (own.map (·.2))) H' s'/\tn i s'.heap/\(∀b∈fp,H' b=none)/\W i m H':=λ{s' H'} I' nx=>by
    obtain ⟨m',hm,w'⟩:=hNx H' nx;have pin':∀b∈fp,∀o,s7.heap.get? b=some o->s'.heap.get? b=some o/\H' b=none:=λb hb o e=>
     let z:=I'.pin (b,o) (Tz _ (Tz _ (nW hb e)))
     #[z.1,z.2.1]
    have hl:(wipe σ (own.map (·.2))).length=σ8.length:=by rw [<-hw8,lC]
    refine #[m',hm,i+1,H',(I'.lx (pins:=[])).weak hl (λj v e=>?_),T.keep _ _ _ st7 λb hb o e=>(pin' b hb o e).1,λb hb=>?_,w']
    .rw [<-hw8] at e;exact (qk e).1
    .obtain ⟨o,e,_⟩:=T.obj _ _ st7 b hb;exact (pin' b hb o e).2
   cases b with
   |false=>simp only [Bool.false_eq_true,if_false] at q9 ⊢;exact fin I9 q9
   |true=>simp only [if_true] at q9 ⊢;refine ci (pe _ s9 σ8 H9 _ I9 q9) λz s10 zq=>?_;obtain ⟨yv,H10,I10,r10,acc,hD10,hz10,nx⟩:=zq;exact K9 (X:=X.jg s3 H3 scope ce fp Ex) I10 hD10 hz10 r10 λs11 I11=>fin I11 nx
 exact codeAny_compStart_list loop (T.self X.A 0 _ _ _ st4 loop)
theorem yb {own:List (Str×Nat)} (hx:wH X E) (hex:X.ex=[]) (hst:X.stack=X.env::X.outer) (hfr:X.env.frame=some X.env.locals) (hc:X.calm=true) (hN:X.N.Nodup) (hi:PI X tg iter wi) (ok:ni X.N X.env.scope scope own)
 (hg:∀(s:Se) (H:Hp) (C:KE) (cl:List (Str×KE)) (fp:List KE) (Ex:UU->Se->Prop),PG (X.jg s H scope (compEnvC scope cl C X.env) fp Ex) tg g)
 (ht:∀(s:Se) (H:Hp) (C:KE) (cl:List (Str×KE)) (fp:List KE) (Ex:UU->Se->Prop),Nv (X.jg s H scope (compEnvC scope cl C X.env) fp Ex) ifs tt)
 (he:∀(s:Se) (H:Hp) (C:KE) (cl:List (Str×KE)) (fp:List KE) (Ex:UU->Se->Prop),Passes (cf X.prog X.w) (X.jg s H scope (compEnvC scope cl C X.env) fp Ex) E->PE (X.jg s H scope (compEnvC scope cl C X.env) fp Ex) elt te)
 (hs:∀x,foldedSetIterable iter X.env x=pure x:=by intro _;rfl):PE X (.ListComp elt [#[tg,iter,ifs,0]] scope pos) (M8 wi g tt te (own.map (·.2))):=by
 intro pins s σ H Q I h;rw [eval_ListComp];refine An hx hex hst hfr hc hN I hi ok hg ht he hs h λD C s' m H' I' q hn f=>#[m,hn,λh'' sb=>?_];obtain ⟨f0,f1,f2,f3,f4,f5⟩:=f;exact #[.ref D,H',I'.turned (t':=s'.toks) (λb o hb e=>(sb.2 b hb).trans e) f0 f1 f3 f4 f5,rfl,q]
theorem wI {i:Nat} {own:List (Str×Nat)} (hx:wH X E) (hex:X.ex=[]) (hst:X.stack=X.env::X.outer) (hfr:X.env.frame=some X.env.locals) (hc:X.calm=true) (hN:X.N.Nodup) (hy:X.N[i]? =some y) (hyl:X.env.scope.names.lookup y=some .local)
 (hsw:swapsWith (.ListComp elt [#[tg,iter,ifs,0]] scope pos) (some (.Name y py)) spos.line X.env=pure true) (hi:PI X tg iter wi) (ok:ni X.N X.env.scope scope own)
 (hg:∀(s:Se) (H:Hp) (C:KE) (cl:List (Str×KE)) (fp:List KE) (Ex:UU->Se->Prop),PG (X.jg s H scope (compEnvC scope cl C X.env) fp Ex) tg g)
 (ht:∀(s:Se) (H:Hp) (C:KE) (cl:List (Str×KE)) (fp:List KE) (Ex:UU->Se->Prop),Nv (X.jg s H scope (compEnvC scope cl C X.env) fp Ex) ifs tt)
 (he:∀(s:Se) (H:Hp) (C:KE) (cl:List (Str×KE)) (fp:List KE) (Ex:UU->Se->Prop),Passes (cf X.prog X.w) (X.jg s H scope (compEnvC scope cl C X.env) fp Ex) E->PE (X.jg s H scope (compEnvC scope cl C X.env) fp Ex) elt te)
 (hs:∀x,foldedSetIterable iter X.env x=pure x:=by intro _;rfl):PS X (.Assign [.Name y py] (.ListComp elt [#[tg,iter,ifs,0]] scope pos) spos) (Cb (M8 wi g tt te (own.map (·.2))) (kZ i)):=by
 intro pins s σ H D I h;rw [exec_Assign_Name_used _ _ _ _ hsw];refine Su (wpAny_standAt (Su ?_));show wpAny _ X.A (do let _<-comprehension (.ListComp elt [⟨tg,iter,ifs,0⟩] scope pos) scope X.env (firstIterPos [⟨tg,iter,ifs,0⟩] pos) (newList []) false (eval iter X.env) (some (assign (.Name y py) X.env))) _ _ s;have h:M8 wi g tt te (own.map (·.2)) σ H (λx H1=>kZ i x σ H1 D.nx):=h;refine Su (ci (An (Qf:=λ_ s'=>SP X pins D .next s') hx hex hst hfr hc hN I hi ok hg ht he hs h λL C s' m H' I' q hn f=>?_) λ_ s' hq=>S6 (S6 hq));show wpAny _ _ (assign (.Name y py) X.env (.ref L)) _ _ _;refine wpAny_assign_Name (wq (v:=V.ref L) I' hN hy (.inl hyl) rfl (λs2 I2 zq=>?_) (.inr hyl));obtain ⟨a,sb,ha⟩:=zq;obtain ⟨f0,f1,f2,f3,f4,f5⟩:=f;have haC:C≠a:=by
  rcases ha with z|z
  .rw [z];exact f1
  .exact λe=>f4 y a z e.symm
 refine #[m,hn.sameBut sb haC,λh3 sb3=>?_];exact #[_,H',I2.turned (t':=s2.toks) (λb o hb e=>(sb3.2 b hb).trans e) f0 f1 f3 f4 f5,q]
theorem Gu:wH X E0:=λ_ _ _ _ _ _ _ _ _ _ _ _ _ _ _ q=>q.elim
end
end L2
end
section
namespace L2
open PySem PySem.Spec PyProof.Rows
theorem mF {α:Type} {xs:List α} {i:Int} {v:α} (h0:0<=i) (e:xs[i.toNat]? =some v):Co xs i=some v:=by have hl:=((Sl).mp e).1;unfold Co Fs;rw [if_pos h0,if_pos (by omega)];exact e
noncomputable def Gv:R2:=λx y H Q=>y= .bZ/\Q (.bl (decide (x= .bZ))) H
noncomputable def Ao:R2:=λx y H Q=>y= .bZ/\Q (.bl (!decide (x= .bZ))) H
noncomputable def Gw:R2:=λx y H Q=>∃i j,x= .str i/\y= .str j/\i.length+j.length<=sizeLine/\Q (.str (i++j)) H
noncomputable def Oy:List V->Hp->VK->Prop:=λxs H Q=>∃x,xs=[.str x]/\x.length=1/\Q (.int (x.cps.getD 0 0:Nat)) H
noncomputable def Gx:List V->Hp->VK->Prop:=λxs H Q=>∃a n,xs=[.str a]/\PySem.intText? a=some n/\a.length<=4300/\(numSeenOf a).length=a.length/\Q (.int n) H
noncomputable def Gy:List V->Hp->VK->Prop:=λxs H Q=>∃z,xs=[.str z]/\z.length<=sizeLine/\Q (.int z.length) H
noncomputable def Gz:List V->Hp->VK->Prop:=λxs H Q=>∃a kvs,xs=[V.ref a]/\H a=some (.dK kvs)/\Q (.int kvs.length) H
noncomputable def DM (K:UT):List V->Hp->VK->Prop:=λxs H Q=>∃p ys,xs=[.ref p]/\(cB K H p ys\/ij K H p ys)/\∀l,H l=none->Q (.ref l) (upd H l (.lst ys))
noncomputable def LP:V->List V->Hp->VK->Prop:=λx xs H Q=>∃a,x= .str a/\xs=[]/\True/\Q (.bl (Txt.isdigit a)) H
noncomputable def QR:V->List V->Hp->VK->Prop:=λx xs H Q=>∃a b,x= .str a/\xs=[.str b]/\Q (.bl (Uk a b)) H
noncomputable def LQ:V->List V->Hp->VK->Prop:=λx xs H Q=>∃a b i,x= .str a/\xs=[.str b,.int i]/\Q (.bl (UD a b i)) H
noncomputable def CG:V->List V->Hp->VK->Prop:=λx xs H Q=>∃a b,x= .str a/\xs=[.str b]/\(b.length==0)=false/\a.length+2<=sizeLine/\oR (Uu a b) H Q
noncomputable def rJoin (K:UT):V->List V->Hp->VK->Prop:=λx xs H Q=>∃a p,∃ys:List Str,x= .str a/\xs=[.ref p]/\(cB K H p (ys.map V.str)\/ij K H p (ys.map V.str))/\(ys.map (·.length)).sum+ys.length*a.length<=16777216/\Q (.str (Txt.join a ys)) H
section
variable {X:Cx} {o e:Expr} {to te:TE}
theorem qt:oI X (compareOp .Is) Gv:=KP
theorem oX:oI X (compareOp .IsNot) Ao:=Ik
theorem DN:oI X (binaryOp .Add) Gw:=Ch
theorem LR:eR X (.builtin "ord") Oy:=FX
theorem LS (a7:PySem.W.nsOkIn X.K cStatics=true) (hni:UQ X.K cStatics "sys.int_max_str_digits" =some none):eR X (.type "int") Gx:=x_ a7 hni
theorem DO:eR X (.builtin "len") Gy:=xU
theorem IS:eR X (.builtin "len") Gz:=EK
theorem wJ:eR X (.type "list") (DM X.K):=xV
theorem tN (ho:PE X o to) (he:PE X e te) (hs:starEach [e] X.env=[(false,eval e X.env)]:=by rfl) (hbase:attributeBase o "split" X.env (eval o X.env)=eval o X.env:=by rfl) (hline:(apos.endLine==pos.line)=true:=by rfl):
 PE X (.Call (.Attribute o "split" apos) [e] [] pos) (Lg CG to te):=Gf ho he hs hbase hline
theorem IT (ho:PE X o to) (he:PE X e te) (hs:starEach [e] X.env=[(false,eval e X.env)]:=by rfl) (hbase:attributeBase o "join" X.env (eval o X.env)=eval o X.env:=by rfl) (hline:(apos.endLine==pos.line)=true:=by rfl):
 PE X (.Call (.Attribute o "join" apos) [e] [] pos) (Lg (rJoin X.K) to te):=IC ho he hs hbase hline
theorem tO:BM X "str.isdigit" LP:=Cu
theorem jh:BM X "str.startswith" QR:=vt
theorem tP:BM X "str.startswith" LQ:=tI
end
section
variable {K:UT} {D:Ends} {σ:St} {H:Hp} {Q:VK} {QT:Bool->Hp->Prop} {QA:List V->Hp->Prop} {QO:Option Int->Hp->Prop} {R:It->Hp->Prop} {a b c:TS} {ta tb tc td te:TE} {t u:TT} {tr:TA} {tl th:TO} {i:Nat} {v x y:V}
theorem QU {r:V->Option Int->Option Int->Hp->VK->Prop} (h:te σ H (N1 r tl th σ Q)):P5 r te tl th σ H Q:=h
theorem GA (h:QO none H):xQ σ H QO:=h
theorem LU (h:te σ H (RI QO)):F6 te σ H QO:=h
theorem Oz {n:Int} {p:Int->Prop} (h:p n):∃j,V.int n= .int j/\p j:=#[_,rfl,h]
theorem tQ {lo hi:Option Int} (h:cB K H p xs) (q:∀q,H q=none->Q (.ref q) (upd H q (.lst (fD xs lo hi)))):KW K (.ref p) lo hi H Q:=#[p,xs,rfl,h,q]
theorem Aq {lo hi:Option Int} (h:z.length<=sizeLine) (q:Q (.str (vv z lo hi)) H):Lh (.str z) lo hi H Q:=#[z,rfl,h,q]
theorem GB (h:ij K H p xs) (f:fV x=true) (g:xs.all fV=true) (q:Q (.bl (!Iv x xs)) H):PB K true x (.ref p) H Q:=#[p,xs,rfl,.inr h,f,g,q]
theorem LV (h:td σ H (RA te σ Q)):Ga td te σ H Q:=h
theorem OB (h:te σ H (Qu td σ (RB Q))):Ld te td σ H Q:=h
theorem GC (h:te σ H (Qu td σ (RC Q))):xZ te td σ H Q:=h
theorem LW (h:tv σ H (RE td te D σ)):Gb td te tv D σ H:=h
theorem CI {n:Int} (e:H d=some (.dK kvs)) (l:aY kvs (.inl n)=some v) (q:Q v H):Qr (.ref d) Q (.int n) H:=#[d,v,rfl,by have:=fT.k (k:=.inl n) e;rw [l] at this;exact this,q]
theorem J8 {n:Int} {A:Option V->Hp->Prop} (e:H d=some (.dK kvs)) (q:A (aY kvs (.inl n)) H):Qt (.int n) A (.ref d) H:=#[d,_,rfl,fT.k (k:=.inl n) e,q]
theorem qu {n:Int} (e:H d=some (.dK kvs)) (l:kvs.length<sizeLine) (q:D.nx σ (upd H d (.dK (putK kvs (.inl n) v)))):Qy D σ v (.ref d) (.int n) H:=#[d,_,rfl,tF.k (k:=.inl n) e l,q]
theorem IU (h:∀p,H p=none->Q (.ref p) (upd H p (.dK []))):x8 σ H Q:=h
theorem LX (h:te σ H (RF kvs Q)):Gj kvs te σ H Q:=h
theorem OC (h:te σ H (RU kvs Q)):Li kvs te σ H Q:=h
theorem DP (l:aY kvs (.inr z)=some v) (q:Q v H):RF kvs Q (.str z) H:=#[.inr z,v,rfl,l,q]
theorem QV {r:V->List V->Hp->VK->Prop} (h:ta σ H (RG r Q)):Qb r ta σ H Q:=h
theorem QW {r:V->List V->Hp->VK->Prop} (h:ta σ H (RH r te σ Q)):Lg r ta te σ H Q:=h
theorem PL {p:Prop} (h:p):(∃a,V.str z= .str a)/\p:=#[#[_,rfl],h]
theorem OD {r:V->List V->Hp->VK->Prop} (h:tr σ H (IJ r (.str z) Q)):Qn K "str" r tr σ Q (.str z) H:=#[rfl,h]
theorem OE (h:Q (.bl (Txt.isdigit z)) H):LP (.str z) [] H Q:=#[z,rfl,rfl,trivial,h]
theorem QX (h:Q (.bl (Uk z w)) H):QR (.str z) [.str w] H Q:=#[z,w,rfl,rfl,h]
theorem OF {n:Int} (h:Q (.bl (UD z w n)) H):LQ (.str z) [.str w,.int n] H Q:=#[z,w,n,rfl,rfl,h]
theorem ye (c:(w.length==0)=false) (l:z.length+2<=sizeLine) (h:∀p,H p=none->Q (.ref p) (upd H p (.lst ((Uu z w).map V.str)))):CG (.str z) [.str w] H Q:=#[z,w,rfl,rfl,c,l,h]
theorem LY (s:cB K H p (ys.map V.str)) (l:(ys.map (·.length)).sum+ys.length*z.length<=16777216) (h:Q (.str (Txt.join z ys)) H):rJoin K (.str z) [.ref p] H Q:=#[z,p,ys,rfl,rfl,.inl s,l,h]
theorem IV (h:Q (.bl true) H):Gv .bZ .bZ H Q:=#[rfl,h]
theorem IW {n:Int} (h:Q (.bl false) H):Gv (.int n) .bZ H Q:=#[rfl,h]
theorem IX (h:Q (.bl false) H):Gv (.ref p) .bZ H Q:=#[rfl,h]
theorem GD (h:Q (.bl false) H):Ao .bZ .bZ H Q:=#[rfl,h]
theorem GF {n:Int} (h:Q (.bl true) H):Ao (.int n) .bZ H Q:=#[rfl,h]
theorem GG (h:Q (.bl true) H):Ao (.ref p) .bZ H Q:=#[rfl,h]
theorem GH (l:z.length+w.length<=sizeLine) (h:Q (.str (z++w)) H):Gw (.str z) (.str w) H Q:=#[z,w,rfl,rfl,l,h]
theorem LZ {n:Int} (e:PySem.intText? z=some n) (l:z.length<=4300) (s:(numSeenOf z).length=z.length) (h:Q (.int n) H):Gx [.str z] H Q:=#[z,n,rfl,e,l,s,h]
theorem GI (l:z.length<=sizeLine) (h:Q (.int z.length) H):Gy [.str z] H Q:=#[z,rfl,l,h]
theorem L1 (e:H d=some (.dK kvs)) (h:Q (.int kvs.length) H):Gz [.ref d] H Q:=#[d,kvs,rfl,e,h]
theorem GJ (e:H p=some (.lst xs)) (q:Q (.int xs.length) H):DK K [.ref p] H Q:=#[p,xs,rfl,.inl (cB.of e),q]
theorem L3 (h:tr σ H (RT C sp Q E)):wx C sp [] E tr σ H Q:=by
 show tr σ H λvs H1=>∀x dx,H1 x=none->H1 dx=none->dx≠x->sp (.ref x::(vs++[])) (upd (upd H1 dx (.own x)) x (.ins C dx [])) (λv H2=>v= .bZ/\Q (.ref x) H2) E
 (simp only [Td]);exact h
theorem L4 (h:tv σ H (Rz K ta f D σ)):ED K ta tv f D σ H:=h
theorem GK (h:H p=some (.ins C dx fs)) (c:kW K C) (n:aO K C f) (l:fs.length<1000) (q:D.nx σ (upd H p (.ins C dx (gD f y fs)))):
 Qp K f D σ y (.ref p) H:=#[p,C,dx,fs,rfl,h,c,n,l,q]
theorem DQ (h:H p=some (.lst xs)) (g:H q=some (.lst zs)) (l:xs.length+zs.length<=sizeLine) (k:∀r,H r=none->Q (.ref r) (upd H r (.lst (xs++zs)))):K5 (.ref p) (.ref q) H Q:=#[p,q,xs,zs,rfl,rfl,h,g,l,k]
theorem IY (h:ta σ H (N5 r r' tb tc σ Q)):Cg r r' ta tb tc σ H Q:=h
theorem L5 (h:ta σ H (Rw K R)):KJ K ta σ H R:=h
theorem DR (h:ij K H p xs) (q:R (JS K p) H):Rw K R (.ref p) H:=#[p,rfl,#[xs,h],q]
theorem IZ (h:H p=some (.lst xs)) (q:R (Ie K p) H):Rv K R (.ref p) H:=#[p,rfl,#[xs,cB.of h],q]
theorem L6 (h:ta σ H (Rx R)):Le ta σ H R:=h
theorem I0 (h:R (NC z) H):Rx R (.str z) H:=#[z,rfl,h]
theorem L7 (h:tr σ H (RV R)):FQ tr σ H R:=h
theorem L8 (h:tr σ H (RW R)):FR tr σ H R:=h
theorem L9 (h:tr σ H (RX R)):Gd tr σ H R:=h
theorem wK (h:H l=some (.lst xs)) (g:H q=some (.tup zs)) (z:xs.length+zs.length<=sizeLine) (k:Q .bZ (upd H l (.lst (xs++zs)))):Am (.ref l) [.ref q] H Q:=#[l,q,xs,zs,rfl,rfl,h,g,z,k]
theorem qv (h:H l=some (.lst xs)) (g:H q=some (.lst zs)) (z:xs.length+zs.length<=sizeLine) (k:Q .bZ (upd H l (.lst (xs++zs)))):xW (.ref l) [.ref q] H Q:=#[l,q,xs,zs,rfl,rfl,h,g,z,k]
theorem OG {T:String} {r:V->List V->Hp->VK->Prop} (h:ta σ H (Lq K T r Q)):KZ K T r ta σ H Q:=h
theorem wL (h:H l=some (.lst (xs++[y]))) (q:Q y (upd H l (.lst xs))):K4 (.ref l) [] H Q:=#[l,xs++[y],y,rfl,rfl,h,by simp,by rw [List.dropLast_concat];exact q]
theorem OH (h:QT true H):Nw σ H QT:=h
theorem QY {a b:Prop} (h:a):if true=true then a else b:=h
theorem QZ {a b:Prop} (h:b):if false=true then a else b:=h
theorem wM {p:Prop} [Decidable p] {a b:Prop} (c:p) (h:a):if p then a else b:=by rw [if_pos c];exact h
theorem k8 {p:Prop} [Decidable p] {a b:Prop} (c:¬p) (h:b):if p then a else b:=by rw [if_neg c];exact h
theorem Q0 {a b:Prop} (h:b):if (!true)=true then a else b:=h
theorem Q1 {a b:Prop} (h:a):if (!false)=true then a else b:=h
theorem OI {a b:Prop} (h:b):if (!(some v).isSome)=true then a else b:=h
theorem OJ {a b:Prop} (h:a):if (!(none:Option V).isSome)=true then a else b:=h
theorem Q2 {a b:Prop} (h:a):if (some v).isSome=true then a else b:=h
theorem Q3 {a b:Prop} (h:b):if (none:Option V).isSome=true then a else b:=h
end
end L2
end
section
namespace L2
open PySem PySem.Spec PyProof.Rows PyProof.Rows.G
def I_ (H:Hp) (p:KE) (x:Int×Int):Prop:=H p=some (.tup [.int x.1,.int x.2])
def vy (x y:Int×Int):Prop:=x.1<y.1\/(x.1=y.1/\x.2<=y.2)
theorem lG {α β:Type} {f:α->β} {m k:List β} (h:k.Perm m):∀l:List α,k=l.map f->∃l':List α,l'.Perm l/\m=l'.map f:=by
 induction h with
 |nil=>intro l e;exact #[l,.refl _,e]
 |cons x h ih=>
  intro l e;cases l with
  |nil=>cases e
  |cons a l=>rw [S1] at e;cases e;obtain ⟨l',h1,h2⟩:=ih l rfl;exact #[a::l',.cons _ h1,by rw [h2];rfl]
 |swap x y l=>
  intro r e
  match r,e with
  |a::b::r,e=>simp only [S1,List.cons.injEq] at e;obtain ⟨rfl,rfl,rfl⟩:=e;exact #[b::a::r,.swap _ _ _,rfl]
 |trans _ _ ih1 ih2=>intro l e;obtain ⟨l1,h1,h2⟩:=ih1 l e;obtain ⟨l2,h3,h4⟩:=ih2 l1 h2;exact #[l2,h3.trans h1,h4]
theorem wN {α:Type} {f:α->KE}:∀{l:List α} {us:List UU},Vals (l.map λz=>V.ref (f z)) us->us=l.map λz=>Sy (f z)
 |[],_,.nil=>rfl
 |a::l,_,.cons r t=>by have e:_=Sy (f a):=r;rw [e,wN t];rfl
theorem wO {α:Type} {f:α->KE}:∀{l:List α},Vals (l.map λz=>V.ref (f z)) (l.map λz=>Sy (f z))
 |[]=>.nil
 |a::l=>.cons rfl wO
def HR (h:Ti) (p:KE) (x:Int×Int):Prop:=∃t u,IsTup h p [.int x.1 t,.int x.2 u].toArray
theorem I_.obj (ok:iO P w H h) {x:Int×Int} (q:I_ H p x):HR h p x:=by
 obtain ⟨_,its,r,e⟩:=ok p _ q;cases r with
 |cons r1 t1=>cases t1 with
  |cons r2 t2=>cases t2;obtain ⟨t,rfl⟩:=r1;obtain ⟨u,rfl⟩:=r2;exact #[t,u,e]
theorem HR.key {x:Int×Int} (q:HR h p x):tupKeyC h (λ_=>false) (.ref p)=some [.inl x.1,.inl x.2]:=by
 obtain ⟨t,u,o,e,hc,n,hd⟩:=q;have h1:isTupObj h (.ref p)=true:=by unfold isTupObj;simp only [e,hc];rfl
 have h2:tupKey h (λ_=>false) (.ref p)=some [.inl x.1,.inl x.2]:=by unfold tupKey;simp only [e,hd];rfl
 unfold tupKeyC;rw [if_pos h1,h2]
theorem HR.mR:∀(zs:List (KE×(Int×Int))),(∀z∈zs,HR h z.1 z.2)->∃fs,TupsOf h (λ_=>false) (zs.map λz=>Sy z.1) fs
 |[],_=>#[[],.nil]
 |z::zs,q=>by obtain ⟨fs,r⟩:=HR.mR zs λy hy=>q y (Sh _ hy);obtain ⟨t,u,o,e,hc,n,hd⟩:=q z Sk;exact #[.int z.2.1 t::fs,.cons #[z.1,o,_,n,rfl,e,hc,hd,rfl,λ_=>#[_,t,rfl],λh=>nomatch h] r]
theorem GL {x y:Int×Int} (h:lexLt itemOrd [.inl y.1,.inl y.2] [.inl x.1,.inl x.2]=false):vy x y:=by
 obtain ⟨a,b⟩:=lex_false.mp h;have a:¬y.1<x.1:=of_decide_eq_false (show decide (y.1<x.1)=false from a);rcases b with b|b
 .have b:x.1<y.1:=of_decide_eq_true (show decide (x.1<y.1)=true from b);exact .inl b
 .obtain ⟨c,d⟩:=lex_false.mp b;have c:¬y.2<x.2:=of_decide_eq_false (show decide (y.2<x.2)=false from c);unfold vy;omega
theorem yf {zs:List (KE×(Int×Int))} (ho:∀z∈zs,HR h z.1 z.2) (hp:xs.Perm (pairsOf (zs.map λz=>Sy z.1))) (hs:SortedToK (tupKindC h λ_=>false) xs (pairsOf (zs.map λz=>Sy z.1)).size):
 ∃zs':List (KE×(Int×Int)),zs'.Perm zs/\zs'.Pairwise (λx y=>vy x.2 y.2)/\(xs.map (·.2)).toList=zs'.map λz=>Sy z.1:=by
 have hl:(zs.map λz=>((Sy z.1,Sy z.1):Keyed)).Perm xs.toList:=by have:=(Array.perm_iff_toList_perm.mp hp).symm;rw [pairsOf_toList,List.zip_map'] at this;exact this
 obtain ⟨zs',h1,h2⟩:=lG hl zs rfl;have hlen:xs.size=zs'.length:=by rw [<-Tw,h2,w4]
 refine #[zs',h1,?_,by rw [Array.toList_map,h2,T2];rfl];rw [TK];intro i j hi hj hij;have hsz:(pairsOf (zs.map λz=>Sy z.1)).size=zs'.length:=by rw [pairsOf_size,w4,h1.length_eq]
 have q:=hs i j (T6 hij) (by rw [hsz];exact hj);have hk:∀(k:Nat) (hk:k<zs'.length),KK (tupKindC h λ_=>false) xs k=([.inl zs'[k].2.1,.inl zs'[k].2.2]:List (Int ⊕ List Nat)):=λk hk=>by
  have e:xs[k]? =some (Sy zs'[k].1,Sy zs'[k].1):=by rw [<-Array.getElem?_toList,h2,SO,Ss hk];rfl
  unfold KK;rw [e];have:=(ho zs'[k] (h1.mem_iff.mp (List.getElem_mem hk))).key;show ((tupKeyC h (λ_=>false) (Sy zs'[k].1)).getD _)=_;rw [this];rfl
 rw [hk i hi,hk j hj] at q;exact GL q
noncomputable def tR (K:UT):List V->Hp->VK->Prop:=λvs H Q=>∃(a:KE) (zs:List (KE×(Int×Int))),vs=[V.ref a]/\cB K H a (zs.map λz=>V.ref z.1)/\(∀z∈zs,I_ H z.1 z.2)/\
 ∀(zs':List (KE×(Int×Int))) (p:KE),zs'.Perm zs->zs'.Pairwise (λx y=>vy x.2 y.2)->H p=none->Q (.ref p) (upd H p (.lst (zs'.map λz=>V.ref z.1)))
section
variable {X:Cx}
theorem CJ:eR X (.builtin "sorted") (tR X.K):=by
 intro pins s σ H vs us Q I r h;obtain ⟨a,zs,rfl,hs,hz,q⟩:=h;obtain ⟨its,rv,hl,hL⟩:=I.list hs;rw [Vals.Ix r];have e:=wN rv;subst e;have ho:∀z∈zs,HR s.heap z.1 z.2:=λz hm=>(hz z hm).obj I.a7;obtain ⟨fs,ht⟩:=HR.mR zs ho;rw [w4] at hL;refine sorted_tups hl.isList ht (λv hv=>?_) (by rw [w4];exact hL) λst' h1 h2 h3=>?_
 .obtain ⟨z,hm,rfl⟩:=(Te).mp hv;exact #[_,(ho z hm).key]
 .obtain ⟨zs',p1,p2,p3⟩:=yf ho h1 h2;obtain ⟨ep,he'⟩:=PyProof.Rows.sortedAll_at s.heap (zs.map λz=>Sy z.1) ((arrOf st').map (·.2));have hlen:(zs'.map λz=>V.ref z.1).length<=sizeLine:=by rw [w4,p1.length_eq];exact hL
  exact #[.ref _,upd H (s.heap.objs.size+1) (.lst (zs'.map λz=>V.ref z.1)),I.laid (t':=s.toks) (λ_ _=>PyProof.Rows.sortedAll_old) (Nat.le_succ _) #[hlen,_,ep,p3▸wO,he'],rfl,q zs' _ p1 p2 (I.a7.fresh (Nat.le_succ _))]
theorem EQ {K:UT} {H:Hp} {Q:VK} {a:KE} {zs:List (KE×(Int×Int))} (h:H a=some (.lst (zs.map λz=>V.ref z.1))) (hz:∀z∈zs,I_ H z.1 z.2)
 (k:∀(zs':List (KE×(Int×Int))) (p:KE),zs'.Perm zs->zs'.Pairwise (λx y=>vy x.2 y.2)->H p=none->Q (.ref p) (upd H p (.lst (zs'.map λz=>V.ref z.1)))):tR K [.ref a] H Q:=#[a,zs,rfl,cB.of h,hz,k]
end
end L2
end
section
namespace L2
open PySem PySem.Spec PyProof.Rows
noncomputable def Ja:List V->Hp->VK->Prop:=λvs H Q=>∃j:Nat,vs=[.int (j:Nat)]/\j<=1000/\∀p,H p=none->Q (.ref p) (upd H p (.Fq 0 (j:Nat)))
noncomputable def L_:List V->Hp->VK->Prop:=λvs H Q=>∃(r:KE) (j:Nat),vs=[.ref r]/\H r=some (.Fq 0 (j:Nat))/\j<=1000/\∀p,H p=none->Q (.ref p) (upd H p (.lst ((SR j).map λi=>V.int (i:Nat))))
theorem tS (j:Nat):UA 0 (j:Int) 1=j:=by rw [rangeSize_one];split<;>omega
theorem tT {j:Nat} (h:ItemsOf (λi v=>∃t,v=UU.int (0+(i:Int)*1) t) acc j):Vals ((SR j).map λi=>V.int (i:Nat)) acc.toList:=by
 have go:∀(l:List UU) (k:Nat),(∀(i:Nat) (v:UU),l[i]? =some v->∃t,v=UU.int ((k+i:Nat):Int) t)->Vals ((List.range' k l.length).map λi=>V.int (i:Nat)) l:=by
  intro l;induction l with
  |nil=>intro k _;exact .nil
  |cons a l ih=>
   intro k h;refine .cons ?_ (ih (k+1) λi v e=>?_)
   .obtain ⟨t,e⟩:=h 0 a rfl;exact #[t,e]
   .obtain ⟨t,e'⟩:=h (i+1) v e;exact #[t,by rw [e',show k+(i+1)=k+1+i by omega]]
 have:=go acc.toList 0 λi v e=>by obtain ⟨t,e'⟩:=h.2 i v (by rw [<-Array.getElem?_toList];exact e);exact #[t,by rw [e'];simp]
 rw [Tw,h.1,<-List.range_eq_range'] at this;exact this
section
variable {X:Cx}
theorem wP:eR X (.type "range") Ja:=by
 intro pins s σ H vs us Q I r h;obtain ⟨j,rfl,h1,q⟩:=h;cases r with
 |cons r rr=>cases rr;obtain ⟨t,rfl⟩:=r;refine call_range_1 ?_;exact #[.ref _,upd H s.heap.objs.size (.Fq 0 (j:Nat)),I.laid (t':=s.toks+1+1) (λb o e=>Sn _ e) (Sf _) #[_,_,_,SL _ rfl],rfl,q _ (I.a7.fresh (Sf _))]
theorem GM (hc:X.calm=true):eR X (.type "list") L_:=by intro pins s σ H vs us Q I r h;obtain ⟨p,j,rfl,hp,h1,q⟩:=h;rw [Vals.Ix r];obtain ⟨t,u,v,hr⟩:=I.a7 p _ hp;refine call_list_range (I.ok.hd hc) hr (small_one (by omega) (by omega) (by omega) (by omega)) (tS j) (by omega) λh' tk acc' c' hk hS hacc=>?_;refine #[.ref _,upd H s.heap.objs.size (.lst ((SR j).map λi=>V.int (i:Nat))),I.laid (t':=tk) hk (Sf _) #[?_,acc'.toList,c',tT hacc,hS],rfl,q _ (I.a7.fresh (Sf _))];rw [w4,TN,sizeLine_eq];omega
end
end L2
end
section
namespace L2
open PySem PySem.Spec PyProof.Rows PySem.W
def sy (L C:Int) (q:Str) (H:Hp) (ps:Array UU):Prop:=ps= #[]\/∃a,ps= [rawInt L,rawInt C,.ref a].toArray/\H a=some (.ext λh=>h.CodeRec (.ref a) q)
def BMain (mg:Str->Option UU) (base:Ti):Prop:=∃bm ob,mg "__builtins__" =some (.ref bm)/\bm≠builtinsNs/\base.get? bm=some ob/\ob.cls= .type "module" /\ob.dict=some builtinsNs/\ob.data= .plain
section
variable {X:Cx} {pins:List (KE×Obj)} {σ:St} {H:Hp} {s:Se} {T:KE} {ps more:Array UU}
theorem Inv.tab {t':Nat} (I:Inv X pins σ H s) (hT:H T=some (.jC ps)) (hx:Ti.ExtBut T s.heap h') (hge:s.heap.objs.size<=c') (hrec:h'.CodeRec (.ref c') q) (htb:h'.get? T=some (tabObj (ps++more))):
 Inv X pins σ (upd (upd H T (.jC (ps++more))) c' (.ext λh=>h.CodeRec (.ref c') q)) {s with heap:=h',toks:=t'}:=by
 have nc:H c'=none:=I.a7.fresh hge;have hcT:T≠c':=λe=>by rw [e,nc] at hT;cases hT
 have ne:∀{b o},s.heap.get? b=some o->b≠c':=λ{b o} e z=>by rw [z] at e;exact absurd (SK e) (Nat.not_lt.mpr hge)
 have neT:∀{b},H b=none->b≠T:=λ{b} e z=>by rw [z,hT] at e;cases e
 have at_:∀{b o},H b=some o->b≠T->upd (upd H T (.jC (ps++more))) c' (.ext λh=>h.CodeRec (.ref c') q) b=some o:=λ{b o} e n=>by rw [ai (ak e nc),ai n];exact e
 have nt:∀{b o},H b=some o->(∀ps,o≠.jC ps)->b≠T:=λ{b o} e n z=>by rw [z,hT] at e;exact n ps (Sd e).symm
 refine I.un (h':=h') #[λb o e n _ _=>hx b o (neT n) e,λb o e n _ _=>#[o.slots,hx b o (neT n) e],λb o e n _=>?_,λb o e _=>?_,λb xs e=>at_ e (nt e λ_ z=>nomatch z),λb o u e=>at_ e (nt e λ_ z=>nomatch z),λb qs e=>?_] λb o e=>?_
 .rw [ai (ne e),ai (neT n)];exact n
 .by_cases z:b=T
  .exact #[_,z▸htb]
  .exact #[o,hx b o z e]
 .by_cases z:b=T
  .subst z;rw [hT] at e;cases e;exact #[more,by rw [ai hcT,ae]]
  .exact #[#[],by rw [at_ e z];simp]
 .by_cases z:b=c'
  .subst z;rw [ae] at e;cases e;obtain ⟨c2,oc,vs,t,e2,hoc,r⟩:=id hrec;cases e2;refine #[hrec,#[oc,hoc],λh1 h2 x1 k=>?_];obtain ⟨c2,oc,vs,t,e2,hoc,r⟩:=x1;cases e2;exact #[_,oc,vs,t,rfl,k _ hoc,r]
  .rw [ai z] at e;by_cases y:b=T
   .subst y;rw [ae] at e;cases e;exact htb
   .rw [ai y] at e;have x:=I.a7 b o e;refine x.vp (λd u hd qd=>?_) (λd hd=>at_ hd (nt hd λ_ z=>nomatch z)) λd xs hd=>at_ hd (nt hd λ_ z=>nomatch z);rcases hd with rfl|hd
    .exact hx _ u y qd
    .exact hx _ u (nt hd λ_ z=>nomatch z) qd
end
structure RJ (X:Cx) (T cc:KE) (L C:Int) (q:Str) (args:Arguments) (body:Expr) (scope:Uz) (lpos:Pos) (clos:List (Str×KE)):Prop where
 cl:closureFor scope X.env=pure clos
 code:X.env.code= .ref cc
 hd:CodeHd X.base cc T
 bm:BMain X.mg X.base
 qual:X.env.qual++ "<lambda>" =q
 line:rawInt lpos.line=rawInt L
 col:rawInt lpos.col=rawInt C
 hit:∀a:KE,codeAmong lpos [rawInt L,rawInt C,.ref a]=some (.ref a)
 df:defaultsOf args X.env=([],[])
section
variable {X:Cx} {pins:List (KE×Obj)} {σ:St} {H:Hp} {s:Se} {T cc:KE} {L C:Int} {q:Str} {args:Arguments} {body:Expr} {scope:Uz} {lpos:Pos} {clos:List (Str×KE)}
structure OK (X:Cx) (pins:List (KE×Obj)) (σ:St) (H:Hp) (T:KE) (L C:Int) (q:Str) (args:Arguments) (body:Expr) (scope:Uz) (clos:List (Str×KE)) (f c':KE) (pm ctv:UU) (H':Hp) (s':Se):Prop where
 inv:Inv X pins σ H' s'
 kp:∀b o,H b=some o->b≠T->H' b=some o
 tab:∃ps,H' T=some (.jC ps)/\sy L C q H' ps
 fn:s'.heap.get? f=some (kla_obj "<lambda>" q args body scope clos pm c' ctv)
 free:H' f=none
 RZ:s'.heap.CodeRec (.ref c') q
 new:X.sr.heap.objs.size<=f
 R5:f∉X.fs
 nL:f≠X.env.locals
 cx:H' c'=some (.ext λh=>h.CodeRec (.ref c') q)
theorem Ma {E:UU->Se->Prop} (Lm:RJ X T cc L C q args body scope lpos clos) (I:Inv X pins σ H s) (hT:H T=some (.jC ps)) (hps:sy L C q H ps):
 wpAny M A (eval (.Lambda args body scope lpos) X.env) (λv s'=>∃f c' pm ctv H',v= .ref f/\OK X pins σ H T L C q args body scope clos f c' pm ctv H' s') E s:=by
 refine kla_eval Lm.df ?_;have hg:s.heap.Ns mainGlobals X.mg:=I.mod.glob.keeps I.bk;have CH:CodeHd s.heap cc T:=Lm.hd.keeps I.bk;have hP:s.heap.get? T=some (tabObj ps):=I.a7 T _ hT;have nb:∀{b o},X.base.get? b=some o->b≠T:=λ{b o} e z=>by have:=(I.bs b o e).2;rw [z,hT] at this;cases this
 have hgP:mainGlobals≠T:=by obtain ⟨o,es,ep,e,_⟩:=I.mod.glob;exact nb e
 obtain ⟨bm,ob,b1,b2,b3,b4,b5,b6⟩:=Lm.bm;have hbG:bm≠mainGlobals:=λz=>by obtain ⟨o,es,ep,e,hd,_⟩:=I.mod.glob;rw [z,e] at b3;cases b3;rw [hd] at b6;cases b6
 have hb:s.heap.BuiltinsAt X.mg T:=#[bm,ob,b1,b2,hbG,nb b3,I.bk _ _ b3,b4,b5,b6];rcases hps with rfl|⟨a,rfl,ha⟩
 .refine kla_makeFunction (ps:=#[]) Lm.cl I.ok.glob hg Lm.code CH hP trivial rfl hgP hb λc' ctv h' tk hx hge hlt hrec htb=>?_;rw [Lm.qual] at hrec ⊢;have J:=I.tab (t':=tk) hT hx hge hrec htb;have J2:=J.kept (t':=tk) (h':=h'.push (kla_obj "<lambda>" q args body scope clos ((X.mg "__name__").getD .none) c' ctv)) λb u e=>Sn _ e;have nc:H c'=none:=I.a7.fresh hge;have hcT:T≠c':=λe=>by rw [e,nc] at hT;cases hT
  refine #[h'.objs.size,c',_,ctv,_,rfl,J2,λb o e n=>?_,#[_,by rw [ai hcT,ae],.inr ⟨c',?_,ae⟩],SL _ rfl,J.a7.fresh (Sf _),hrec.keeps λb u e=>Sn _ e,SA I.sz (SA hge (T6 hlt)),J.Kx (Sf _),λz=>?_,ae]
  .rw [ai (ak e nc),ai n];exact e
  .rw [Lm.line,Lm.col];simp
  .have:=J.lt;rw [<-z] at this;exact absurd this (Tr _)
 .obtain ⟨hrec,_⟩:=I.a7 a _ ha;refine kla_makeFunctionHit (cv:=.ref a) Lm.cl I.ok.glob hg Lm.code CH hP trivial (Lm.hit a) hb λctv h' tk hk hsz=>?_;rw [Lm.qual];have J:=I.kept (t':=tk) (h':=h') hk;have J2:=J.kept (t':=tk) (h':=h'.push (kla_obj "<lambda>" q args body scope clos ((X.mg "__name__").getD .none) a ctv)) λb u e=>Sn _ e;exact #[h'.objs.size,a,_,ctv,H,rfl,J2,λb o e _=>e,#[_,hT,.inr #[a,rfl,ha]],SL _ rfl,J.a7.fresh (Sf _),hrec.keeps λb u e=>Sn _ (hk _ _ e),SA I.sz hsz,J.Kx (Sf _),λz=>by have:=J.lt;rw [<-z] at this;exact absurd this (Tr _),ha]
end
end L2
end
section
namespace L2
open PySem PySem.Spec PyProof.Rows PySem.W
noncomputable def GN (X:Cx) (A:Tl) (s:Se) (H:Hp) (N:List Str) (env:Env):Cx where
 prog:=X.prog
 w:=X.w
 K:=X.K
 mg:=X.mg
 base:=X.base
 A:=A.deeper env
 N:=N
 sr:=s
 M3:=H
 env:=env
 outer:=X.stack
 stack:=env::X.stack
 ex:=[]
 fn:=λ_=>false
 calm:=true
 pn:=[]
 xe:=λ_ _=>False
structure Ar (args:Arguments) (body:Expr) (scope:Uz) (x0 y0:Str):Prop where
 kind:scope.kind= .function
 co:scope.isCoroutine=false
 gen:scope.isGenerator=false
 GO:∀x∈scope.names,x.2≠.cell
 loc:scope.names.lookup x0=some .local
 free:scope.names.lookup y0=some .free
 one:∀x,scope.names.lookup x=some .free->x=y0
 ne:x0≠y0
 bind:∀(name qual:Str) (cl:List (Str×KE)) (pm cdv ct u:UU),bindArgs (kla_fn name qual args body scope cl pm cdv ct) #[[u],[]]=pure [(x0,u)]
section
variable {X:Cx} {pins:List (KE×Obj)} {σ:St} {H:Hp} {s:Se} {q:Str} {args:Arguments} {body:Expr} {scope:Uz} {x0 y0:Str} {c0 f c':KE} {pm ctv u w0:UU} {v v0:V} {tb:TE} {Q:VK} {A:Tl}
theorem Jb (S:Ar args body scope x0 y0) (I:Inv X pins σ H s) (hA:A.frames=some X.stack) (hh:A.handled=none) (hd:A.depth<recursionLimit)
 (hf:s.heap.get? f=some (kla_obj "<lambda>" q args body scope [(y0,c0)] pm c' ctv)) (hrec:s.heap.CodeRec (.ref c') q) (hc0:s.heap.IsCell c0 (some w0)) (hw:RelV v0 w0) (hn0:H c0=none) (hu:RelV v u)
 (hb:PE (GN X A s H [x0,y0] (envX q scope s.heap.objs.size f (.ref c') [(y0,c0)])) body tb) (h:tb [some v,some v0] H Q):
 codeAny (model X.prog X.w) A (.call (.ref f) #[[u],[]]) (CR d8 X.stack X.prog X.w H s Q E0) s:=by
 have e0:=I.KQ;refine kla_callFunE hd hf rfl S.co S.gen rfl hrec ?_;rw [S.bind];refine S6 (wpAny_newFunctionEnv S.GO (λy hy=>?_) (λh1 hns hsb=>#[?_,?_]) S.kind)
 .rw [(SB).mp hy];exact S.loc
 .exact I.nolimit.keeps λb o e=>hsb.extBut b o (Tu (SK e)) (Sn _ e)
 .have hk:∀b o,s.heap.get? b=some o->h1.get? b=some o:=λb o e=>hsb.extBut b o (Tu (SK e)) (Sn _ e);show codeAny _ _ (.expr body (envX q scope s.heap.objs.size f (.ref c') [(y0,c0)])) _ _;have lk:∀{x c},([(y0,c0)]:List (Str×KE)).lookup x=some c->x=y0/\c=c0:=λ{x c} e=>by
   rw [Tn] at e;cases z:x==y0 with
   |true=>rw [z] at e;exact #[eq_of_beq z,(Sd e).symm]
   |false=>rw [z] at e;cases e
  have J:Inv (GN X A s H [x0,y0] (envX q scope s.heap.objs.size f (.ref c') [(y0,c0)])) [] [some v,some v0] H {s with heap:=h1,toks:=s.toks+1}:=by
   refine #[#[e0.mod,S.kind,rfl,rfl,Sf _,λx y c e1 e2=>(lk e1).1.trans (lk e2).1.symm,λx hx=>?_,λx c z _=>(nomatch z),λ_=>hh,Tl.frames_deeper hA,.inr #[rfl,rfl],λb z=>absurd (show b∈([]:List KE) from z) (by simp),e0.bs,e0.Es,λb _ _ z=>absurd (show b∈([]:List KE) from z) (by simp),λb z=>absurd (show b∈([]:List KE) from z) (by simp),e0.mS,e0.HP],
    rfl,e0.bare,Un.kept hk,#[_,hns,λi x v' e1 e2 e3=>?_],λx c e=>?_,e0.a7.fresh (Sf _),λx c e=>?_,λp hp=>absurd (show p∈([]:List (KE×Obj)) from hp) (by simp),e0.a7.kept hk,rfl]
   .have hx:scope.names.lookup x=some .cell\/scope.names.lookup x=some .free:=hx;rcases hx with hx|hx
    .exact absurd rfl (S.GO _ (SY hx))
    .have:=S.one x hx;subst this;exact #[c0,by show ([(x,c0)]:List (Str×KE)).lookup x=_;rw [Tn,beq_self_eq_true]]
   .match i,e1,e2 with
    |0,e1,e2=>have e1:x0=x:=Sd e1;have e2:v=v':=Sd (Sd e2);subst e1 e2;refine #[u,hu,.inl #[S.loc,?_]];show ([(x0,u)]:List (Str×UU)).reverse.lookup x0=_;show ([(x0,u)]:List (Str×UU)).lookup x0=_;rw [Tn,beq_self_eq_true]
    |1,e1,e2=>have e1:y0=x:=Sd e1;have e2:v0=v':=Sd (Sd e2);subst e1 e2;exact #[w0,hw,.inr #[.inr S.free,c0,by show ([(y0,c0)]:List (Str×KE)).lookup y0=_;rw [Tn,beq_self_eq_true],hc0.keeps hk]]
    |i+2,e1,_=>cases e1
   .rw [(lk e).2];exact #[_,hc0.keeps hk]
   .rw [(lk e).2];exact hn0
  refine kla_codeExpr (TJ (hb [] _ _ H _ J h) (λu' s' hq=>?_) λ_ _ z=>TD z);obtain ⟨v',H',J',rv,q'⟩:=hq;exact #[v',H',J'.os,J'.bare,J'.base,J'.a7,rv,q']
end
end L2
end
section
namespace L2
open PySem PySem.Spec PyProof.Rows
section
variable {X:Cx} {pins:List (KE×Obj)} {σ:St} {H H':Hp} {s s':Se}
theorem Inv.OM {n:Nat} (I:Inv X pins σ H s) (hp:ke X pins H a) (hx:X.ex=[]) (hl:xs.length<=sizeLine) (r:Vals xs its) (ho:s.heap.get? a=some {cls:=.type "list",data:=.seq its.toArray n}):Inv X pins σ (upd H a (.lst xs)) s:=by
 obtain ⟨h1,h2,h3,h4,h5,h6⟩:=hp;have hge:X.sr.heap.objs.size<=a:=by
  rcases h4 with h4|h4
  .rw [hx] at h4;cases h4
  .exact h4
 have nt:∀{b o},H b=some o->upd H a (.lst xs) b=some o:=λ{b o} e=>by rw [ai (ak e h1)];exact e
 refine #[I.ok,I.os,I.bare,#[I.base.keep,I.base.slot,λb o e n hx=>?_,I.base.there,λb ys e=>nt (I.base.mR b ys e),λb o u e=>nt (I.base.p_ b o u e),λb ps e=>?_],I.loc,I.cell,?_,λx c e=>?_,λp hp=>?_,λb o e=>?_,I.len]
 .rw [ai (λz=>by rw [z] at e;exact absurd (SK e) (Nat.not_lt.mpr hge))];exact I.base.free b o e n hx
 .obtain ⟨m,q⟩:=I.base.qa b ps e;exact #[m,nt q]
 .rw [ai (λz=>h2 z.symm)];exact I.free
 .rw [ai (h5 x c e)];exact I.gB x c e
 .obtain ⟨e,n,q⟩:=I.pin p hp;exact #[e,by rw [ai (h6 p hp)];exact n,q]
 .by_cases z:b=a
  .subst z;rw [ae] at e;cases e;exact #[hl,its,n,r,ho]
  .rw [ai z] at e;exact (I.a7 b o e).vp (λ_ _ _ q=>q) (λ_ q=>nt q) λ_ _ q=>nt q
theorem ke.after (hp:ke X pins H a) (I:Inv X pins σ H s) (u:Un (j0 X.stack) [] H H' s.heap s'.heap) (e:s.heap.get? a=some o):ke X pins H' a/\s'.heap.get? a=some o:=by
 refine #[#[u.free a o e hp.1 (by simp),hp.2],u.keep a o e hp.1 (λz=>?_) (by simp)];rcases (Sg).mp (I.sT a z) with y|y
 .exact hp.2.1 y
 .exact hp.2.2.1 y
end
def keysOk (key:Nat->Int×Int) (H:Hp) (i:Nat) (zs:List (KE×(Int×Int))):Prop:=zs.map (·.2)=(SR i).map key/\∀z∈zs,I_ H z.1 z.2
def CK (X:Cx) (pins:List (KE×Obj)) (σ:St) (H:Hp) (f:KE) (key:Nat->Int×Int) (n:Nat):Prop:=∀i,i<n->∀(H':Hp) (s':Se) (u:UU),Inv X pins σ H' s'->aj H H'->RelV (.int (i:Nat)) u->
 wpAny (model X.prog X.w) X.A.in1.in1 (call (.ref f) [u]) (λv s''=>∃p H'',v= .ref p/\Inv X pins σ H'' s''/\aj H' H''/\I_ H'' p (key i)/\Un (j0 X.stack) [] H' H'' s'.heap s''.heap) (λ_ _=>False) s'
structure PM (X:Cx) (pins:List (KE×Obj)) (σ:St) (H:Hp) (key:Nat->Int×Int) (a kS:KE) (e1 i:Nat) (s:Se) (H':Hp) (zs:List (KE×(Int×Int))) (e:Nat):Prop where
 inv:Inv X pins σ H' s
 same:aj H H'
 fa:ke X pins H' a
 fk:ke X pins H' kS
 at_:s.heap.get? a=some (seqObj "list" #[] e1)
 ks:s.heap.get? kS=some (seqObj "list" (zs.map λz=>Sy z.1).toArray e)
 ok:keysOk key H' i zs
section
variable {X:Cx} {pins:List (KE×Obj)} {σ:St} {H:Hp} {key:Nat->Int×Int} {a kS f:KE} {e1 n:Nat} {vs:List UU} {E:UU->Se->Prop} {P:PySem.Fin->Se->Prop} {s:Se}
theorem yh {key:Nat->Int×Int} {i:Nat} {zs:List (KE×(Int×Int))} (h:keysOk key H i zs):zs.length=i:=by have:=congrArg T7 h.1;rw [w4,w4,TN] at this;exact this
def GQ (X:Cx) (pins:List (KE×Obj)) (σ:St) (H:Hp) (key:Nat->Int×Int) (a:KE) (n:Nat) (s':Se):Prop:=
 ∃(H':Hp) (is:List Nat),Inv X pins σ H' s'/\aj H H'/\H' a=some (.lst (is.map λi=>V.int (i:Nat)))/\is.Perm (SR n)/\is.Pairwise (λi j=>vy (key i) (key j))
theorem GR {st:SortSt} {H':Hp} {zs:List (KE×(Int×Int))} {e:Nat} {is:List Nat} (hx:X.ex=[]) (hka:kS≠a) (S:PM X pins σ H key a kS e1 n s H' zs e) (hn:n<=1000) (hfl:failedOf st=none) (hsv:Vals (is.map λi=>V.int (i:Nat)) ((arrOf st).map (·.2)).toList) (his:is.Perm (SR n)) (hso:is.Pairwise (λi j=>vy (key i) (key j)))
 (h:∀s',GQ X pins σ H key a n s'->P (.done (.ret .none)) s'):wpAny (model X.prog X.w) X.A.in1.in1 (ksk_tail a false e1 (.ref kS) st) P E s:=by
 have hl:=yh S.ok;have big:1001<=sizeLine:=by decide
 have hilen:is.length=n:=by rw [his.length_eq,TN]
 have hsz:((arrOf st).map (·.2)).size=n:=by have:=hsv.length;rw [w4,hilen] at this;rw [<-Tw];exact this.symm
 unfold ksk_tail;have s1:=Ti.SameBut.update s.heap kS (TC λ_=>(#[]:Array UU));have na1:(s.heap.update kS (TC λ_=>(#[]:Array UU))).get? a=some (seqObj "list" #[] e1):=(s1.2 a hka.symm).trans S.at_;refine Su (listUpdate_at S.ks rfl (Su (wpAny_letGo (Su (seqEpoch_at na1 rfl (Su (listUpdate_at na1 rfl ?_ (SW _) ?_)))))) ?_ (SW _))
 .rw [hfl];simp only [bne_self_eq_false,Bool.false_eq_true,if_false];refine S6 (h _ ?_);have J1:=S.inv.sw (t':=s.toks) (h':=s.heap.update kS (TC λ_=>(#[]:Array UU))) (ch:=[kS]) (λb o hb e0=>(s1.2 b (λz=>hb ((SB).mpr z))).trans e0) λb hb=>by rw [(SB).mp hb];exact S.fk
  have ho:=get?_update_seq na1 λ_=>(arrOf st).map (·.2);have s2:=Ti.SameBut.update (s.heap.update kS (TC λ_=>(#[]:Array UU))) a (TC λ_=>(arrOf st).map (·.2));generalize (s.heap.update kS (TC λ_=>(#[]:Array UU))).update a (TC λ_=>(arrOf st).map (·.2))=h2 at ho s2 ⊢;have J2:=J1.sw (t':=s.toks) (h':=h2) (ch:=[a]) (λb o hb e0=>by rw [s2.2 b λz=>hb ((SB).mpr z)];exact e0) λb hb=>by rw [(SB).mp hb];exact S.fa
  rw [<-Array.toArray_toList (xs:=(arrOf st).map (·.2))] at ho;have J3:=J2.OM (its:=((arrOf st).map (·.2)).toList) S.fa hx (by rw [w4,hilen];omega) hsv ho;exact #[_,is,J3,λb o e0=>by rw [ai (ak (S.same b o e0) S.fa.1)];exact S.same b o e0,ae,his,hso]
 .show ((arrOf st).map (·.2)).size<=_;rw [hsz];omega
 .rw [Sv,w4,hl];omega
end
end L2
end
section
namespace L2
open PySem PySem.Spec PyProof.Rows
section
variable {X:Cx} {pins:List (KE×Obj)} {σ:St} {H:Hp} {key:Nat->Int×Int} {a kS f:KE} {e1 n:Nat} {vs:List UU} {E:UU->Se->Prop} {P:PySem.Fin->Se->Prop} {s:Se}
noncomputable def Ft (zs:List (KE×(Int×Int))) (vs:List UU) (i:Nat):Keyed:=(((zs[i]?).map λz=>Sy z.1).getD .none,(vs[i]?).getD .none)
theorem GS {zs:List (KE×(Int×Int))} (h1:zs.length=n) (h2:vs.length=n):((zs.map λz=>Sy z.1).toArray.zip vs.toArray).toList=(SR n).map (Ft zs vs):=by
 apply List.ext_getElem?;intro i;rw [SO,Array.toList_zip];by_cases hi:i<n
 .rw [List.getElem?_range hi,(List.getElem?_zip_eq_some (z:=Ft zs vs i)).mpr ⟨?_,?_⟩]
  .rfl
  .show (zs.map λz=>Sy z.1)[i]? =_;rw [SO,Ss (by omega)];unfold Ft;rw [Ss (by omega)];rfl
  .show vs[i]? =_;unfold Ft;rw [Ss (by omega)];rfl
 .rw [List.getElem?_eq_none (by rw [List.length_zip];show _<=i;simp;omega),List.getElem?_eq_none (by rw [TN];omega)];rfl
theorem Mb {zs:List (KE×(Int×Int))} (ok:keysOk key H' n zs) {i:Nat} (hi:i<n):∃p,zs[i]? =some (p,key i)/\I_ H' p (key i):=by
 have hl:=yh ok;have e:zs[i]? =some zs[i]:=Ss (by omega);have e2:zs[i].2=key i:=by have:=congrArg (λl=>l[i]?) ok.1;rw [SO,SO,e,List.getElem?_range hi] at this;exact Sd this
 refine #[zs[i].1,by rw [e,<-e2],?_];rw [<-e2];exact ok.2 _ (List.getElem_mem _)
theorem DS {zs:List (KE×(Int×Int))} (a7:iO Pr w H' h) (ok:keysOk key H' n zs) {i:Nat} (hi:i<n):G.tupKeyC h (λ_=>false) (Ft zs vs i).1=some [.inl (key i).1,.inl (key i).2]:=by obtain ⟨p,e,q⟩:=Mb ok hi;unfold Ft;rw [e];exact (q.obj a7).key
theorem Jc (hv:Vals ((SR n).map λi=>V.int (i:Nat)) vs) {zs:List (KE×(Int×Int))} {i:Nat} (hi:i<n):RelV (.int (i:Nat)) (Ft zs vs i).2:=by obtain ⟨u,e,r⟩:=hv.get (i:=i) (x:=V.int (i:Nat)) (by rw [SO,List.getElem?_range hi];rfl);unfold Ft;rw [e];exact r
theorem DT (hv:Vals ((SR n).map λi=>V.int (i:Nat)) vs) {zs:List (KE×(Int×Int))}:∀{is:List Nat},(∀i∈is,i<n)->Vals (is.map λi=>V.int (i:Nat)) (is.map λi=>(Ft zs vs i).2)
 |[],_=>.nil
 |i::is,h=>.cons (Jc hv (h i Sk)) (DT hv λj hj=>h j (Sh _ hj))
theorem Jd (a7:iO Pr w H' h):∀{zs:List (KE×(Int×Int))},(∀z∈zs,I_ H' z.1 z.2)->∃fs,TupsOf h (λ_=>false) (zs.map λz=>Sy z.1) fs:=λ{zs} q=>HR.mR zs λz hz=>(q z hz).obj a7
theorem Je {zs:List (KE×(Int×Int))} {e:Nat} (hx:X.ex=[]) (hka:kS≠a) (S:PM X pins σ H key a kS e1 n s H' zs e) (hn:n<=1000) (hv:Vals ((SR n).map λi=>V.int (i:Nat)) vs)
 (h:∀s',GQ X pins σ H key a n s'->P (.done (.ret .none)) s'):wpAny (model X.prog X.w) X.A.in1.in1 (ksk_end a false vs.toArray e1 (.ref kS) (zs.map λz=>Sy z.1).toArray) P E s:=by
 have hl:=yh S.ok;have hvl:vs.length=n:=by have:=hv.length;rw [w4,TN] at this;exact this.symm
 have hpr:=GS (zs:=zs) (vs:=vs) hl hvl;have hpsz:((zs.map λz=>Sy z.1).toArray.zip vs.toArray).size=n:=by rw [<-Tw,hpr,w4,TN]
 generalize hps:(zs.map λz=>Sy z.1).toArray.zip vs.toArray=ps at hpr hpsz;have fin:∀st:SortSt,(arrOf st).Perm ps->failedOf st=none->SortedToK (G.tupKindC s.heap λ_=>false) (arrOf st) n->wpAny (model X.prog X.w) X.A.in1.in1 (ksk_tail a false e1 (.ref kS) st) P E s:=λst p1 p2 p3=>by
  have hl2:((SR n).map (Ft zs vs)).Perm (arrOf st).toList:=by rw [<-hpr];exact (Array.perm_iff_toList_perm.mp p1).symm
  obtain ⟨is,q1,q2⟩:=lG hl2 (SR n) rfl;have hin:∀i∈is,i<n:=λi hi=>(TU).mp (q1.mem_iff.mp hi);have hil:is.length=n:=by rw [q1.length_eq,TN]
  refine GR (is:=is) hx hka S hn p2 ?_ q1 ?_ h
  .rw [Array.toList_map,q2,T2];exact DT hv hin
  .rw [TK];intro i j hi hj hij;have q:=p3 i j (T6 hij) (by omega);have hk:∀(k:Nat) (hk:k<is.length),KK (G.tupKindC s.heap λ_=>false) (arrOf st) k=([.inl (key is[k]).1,.inl (key is[k]).2]:List (Int ⊕ List Nat)):=λk hk=>by
    have e:(arrOf st)[k]? =some (Ft zs vs is[k]):=by rw [<-Array.getElem?_toList,q2,SO,Ss hk];rfl
    unfold KK;rw [e];have:=DS (vs:=vs) S.inv.a7 S.ok (hin is[k] (List.getElem_mem hk));show ((G.tupKeyC s.heap (λ_=>false) (Ft zs vs is[k]).1).getD _)=_;rw [this];rfl
   rw [hk i hi,hk j hj] at q;exact GL q
 unfold ksk_end;simp only [Bool.false_eq_true,if_false];rw [hps];by_cases h2:vs.toArray.size<2
 .rw [if_pos h2,if_pos h2];refine Su (S6 ?_);rw [StateT.run_pure];refine Su (S6 ?_);refine fin (SortSt.mk' general' ps #[] 7 none) (Array.Perm.refl _) rfl λi j hij hj=>?_;rw [Sv] at h2;have:i=j:=by omega
  subst this;exact KeyOrd.kle_refl _
 .rw [if_neg h2,if_neg h2];rw [Sv] at h2;obtain ⟨fs,ht⟩:=Jd S.inv.a7 S.ok.2;have hfl:=G.TupsOf.length ht;rw [w4] at hfl;refine Su (tup_kind (by omega) ht ?_);refine Su (TJ (G.wpS_sortRunsSt (κ:=G.tupKindC s.heap λ_=>false) (kd:=tuples' true) (a₀:=ps) (st:=SortSt.mk' (tuples' true) ps #[] 7 none)
   (Q:=λ_ st'=>(arrOf st').Perm ps/\failedOf st'=none/\SortedToK (G.tupKindC s.heap λ_=>false) (arrOf st') ps.size) (G.tupC_ltAt true (G.KeepsTups.refl _)) (λp hp=>?_) #[Array.Perm.refl _,rfl,rfl] rfl (Stable.refl _) (by omega) λst' a1 a2 a3 a4=>#[a1,a2,a3]) ?_ λ_ _ e=>e)
  .rw [hpr] at hp;obtain ⟨i,hi,rfl⟩:=(Te).mp hp;exact #[_,DS S.inv.a7 S.ok ((TU).mp hi)]
  .rintro ⟨⟨⟩,st'⟩ s' ⟨rfl,p1,p2,p3⟩;rw [hpsz] at p3;exact fin st' p1 p2 p3
end
end L2
end
section
namespace L2
open PySem PySem.Spec PyProof.Rows
section
variable {X:Cx} {pins:List (KE×Obj)} {σ:St} {H:Hp} {key:Nat->Int×Int} {a kS f:KE} {e1 n:Nat} {vs:List UU} {E:UU->Se->Prop} {P:PySem.Fin->Se->Prop} {s:Se}
theorem GU (hx:X.ex=[]) (hka:kS≠a) (S:PM X pins σ H key a kS e1 0 s H [] 0) (hn:n<=1000) (hv:Vals ((SR n).map λi=>V.int (i:Nat)) vs) (hr:CK X pins σ H f key n)
 (h:∀s',GQ X pins σ H key a n s'->P (.done (.ret .none)) s'):wpAny (model X.prog X.w) X.A.in1.in1 (ksk_rest a (.ref f) false vs.toArray e1 (.ref kS)) P E s:=by
 have hvl:vs.length=n:=by have:=hv.length;rw [w4,TN] at this;exact this.symm
 have big:1001<=sizeLine:=by rw [sizeLine_eq];decide
 unfold ksk_rest;refine Su (wpAny_rule ?_);rw [List.forIn_toArray];refine Su (ksk_fold (λi s'=>∃H' zs e,PM X pins σ H key a kS e1 i s' H' zs e) vs 0 s #[H,[],0,S] (λj x s' hj hJ=>?_) λs' hJ=>?_)
 .rw [Nat.zero_add] at hJ ⊢;obtain ⟨H',zs,e,T⟩:=hJ;have hjn:j<n:=by rw [<-hvl];exact ((Sl).mp hj).1
  obtain ⟨u,eu,ru⟩:=hv.get (i:=j) (x:=V.int (j:Nat)) (by rw [SO,List.getElem?_range hjn];rfl);rw [hj] at eu;cases eu;have hl:=yh T.ok;refine Su (wpAny_attempt (TJ (hr j hjn H' s' x T.inv T.same ru) (λv s2 hq=>?_) λ_ _ z=>z.elim));obtain ⟨p,H2,rfl,I2,s12,hp,un⟩:=hq;obtain ⟨fa,at2⟩:=T.fa.after T.inv un T.at_;obtain ⟨fk,ks2⟩:=T.fk.after T.inv un T.ks;obtain ⟨e2,ho⟩:∃e2,(s2.heap.update kS (TC λxs=>xs.push (Sy p))).get? kS=some (seqObj "list" ((zs.map λz=>Sy z.1).toArray.push (.ref p)) e2):=#[_,get?_update_seq ks2 λxs=>xs.push (Sy p)];have sb:=Ti.SameBut.update s2.heap kS (TC λxs=>xs.push (Sy p));refine Su (listUpdate_at ks2 rfl (S6 #[rfl,H2,zs++[(p,key j)],e2,?_]) ?_ ?_)
  .generalize s2.heap.update kS (TC λxs=>xs.push (Sy p))=h2 at ho sb ⊢;have J:=I2.sw (t':=s2.toks) (h':=h2) (ch:=[kS]) (λb o hb e0=>by rw [sb.2 b λz=>hb ((SB).mpr z)];exact e0) λb hb=>by rw [(SB).mp hb];exact fk
   refine #[J,λb o e0=>s12 b o (T.same b o e0),fa,fk,by rw [sb.2 a hka.symm];exact at2,?_,?_,λz hz=>?_]
   .rw [Sw];rw [show ((zs.map λz=>Sy z.1)++[(p,key j)].map λz=>Sy z.1).toArray=(zs.map λz=>Sy z.1).toArray.push (.ref p) by simp];exact ho
   .rw [Sw,T.ok.1,Uq,Sw];rfl
   .rcases (SU).mp hz with hz|hz
    .exact s12 _ _ (T.ok.2 z hz)
    .rw [(SB).mp hz];exact hp
  .rw [Sv,w4,hl];omega
  .rw [Array.size_push,Sv,w4,hl];omega
 .rw [Nat.zero_add,hvl] at hJ;obtain ⟨H',zs,e,T⟩:=hJ;refine Su (listItems_at T.ks rfl ?_);exact Je hx hka T hn hv h
theorem GV {n0:Nat} (I:Inv X pins σ H s) (hx:X.ex=[]) (ho:s.heap.get? a=some (seqObj "list" vs.toArray n0)) (fa:ke X pins H a) (hn:n<=1000) (hv:Vals ((SR n).map λi=>V.int (i:Nat)) vs) (hr:CK X pins σ H f key n)
 (h:∀s',GQ X pins σ H key a n s'->P (.done (.ret .none)) s'):wpAny (model X.prog X.w) X.A.in1.in1 (ksk_tree a (.ref f) false) P E s:=by
 have hvl:vs.length=n:=by have:=hv.length;rw [w4,TN] at this;exact this.symm
 have big:1001<=sizeLine:=by rw [sizeLine_eq];decide
 have ha:a<s.heap.objs.size:=SK ho;have sb:=Ti.SameBut.update s.heap a (TC λ_=>(#[]:Array UU));obtain ⟨e1,ho1⟩:∃e1,(s.heap.update a (TC λ_=>(#[]:Array UU))).get? a=some (seqObj "list" #[] e1):=#[_,get?_update_seq ho λ_=>#[]];unfold ksk_tree;refine Su (listItems_at ho rfl (Su (listUpdate_at ho rfl (Su (seqEpoch_at ho1 rfl (Su (wpAny_newTuple (Su (wpAny_newList (wpAny_holding ?_) (SW _))) ?_)))) ?_ (SW _))))
 .have J:=I.sw (t':=s.toks) (h':=s.heap.update a (TC λ_=>(#[]:Array UU))) (ch:=[a]) (λb o hb e0=>by rw [sb.2 b λz=>hb ((SB).mpr z)];exact e0) λb hb=>by rw [(SB).mp hb];exact fa
  generalize s.heap.update a (TC λ_=>(#[]:Array UU))=h1 at ho1 sb J ⊢;have hsz:h1.objs.size=s.heap.objs.size:=sb.1;have J2:=J.kept (t':=s.toks) (h':=(h1.push {cls:=.type "tuple",data:=.seq vs.toArray.toList.toArray}).push {cls:=.type "list",data:=.seq ([]:List UU).toArray}) λb u e=>Sn _ (Sn _ e);have hkS:h1.objs.size<=(h1.push {cls:=.type "tuple",data:=.seq vs.toArray.toList.toArray}).objs.size:=by rw [size_push'];omega
  have hka:(h1.push {cls:=.type "tuple",data:=.seq vs.toArray.toList.toArray}).objs.size≠a:=Nat.ne_of_gt (SS (by rw [hsz];exact ha) hkS);refine GU (kS:=(h1.push {cls:=.type "tuple",data:=.seq vs.toArray.toList.toArray}).objs.size) hx hka #[J2,λb o e=>e,fa,?_,Sn _ (Sn _ ho1),SL _ rfl,rfl,λz hz=>(nomatch hz)] hn hv hr h;exact J.Cc hkS (J.a7.fresh hkS)
 .show vs.toArray.toList.length<=_;rw [Tw,Sv,hvl];omega
 .rw [Sv,hvl];omega
theorem GW {R:Result->Se->Prop} (hh:A.handled=none) (hr:s.heap.get? r=some {cls:=.type "range",data:=.fields [.int 0 t,.int (n:Nat) u,.int 1 v].toArray}) (hn:n<=1000) (hS:s.heap.get? S=some {cls:=.type "list",data:=.seq #[]})
 (hR:∀h' tk acc' c',(∀b o,b≠S->s.heap.get? b=some o->h'.get? b=some o)->h'.get? S=some {cls:=.type "list",dict:=none,data:=.seq acc' c',slots:=#[]}->ItemsOf (λi v=>∃t,v=UU.int (0+(i:Int)*1) t) acc' n->R (.ok (.ret (.ref S))) {s with heap:=h',toks:=tk}):
 codeAny (model X.prog X.w) A (.builtin "list.__iadd__" ⟨[.ref S,.ref r],[]⟩) R s:=by
 refine codeAny_builtin F.entry_list_iadd ?_;rw [Tl.under_plainId F.plain_list_iadd _];exact wpAny_extend_range hh hr (small_one (by omega) (by omega) (by omega) (by omega)) (tS n) (by omega) S (.ref S) 0 hS hR
theorem As {Q:List UU->Se->Prop} (hh:A.handled=none) (hr:s.heap.get? r=some {cls:=.type "range",data:=.fields [.int 0 t,.int (n:Nat) u,.int 1 v].toArray}) (hn:n<=1000)
 (h:∀h' tk vs,(∀b o,s.heap.get? b=some o->h'.get? b=some o)->Vals ((SR n).map λi=>V.int (i:Nat)) vs->Q vs {s with heap:=h',toks:=tk}):wpAny (model X.prog X.w) A (collect (.ref r)) Q E s:=by
 unfold collect;refine Su (wpAny_runValue (codeAny_builtin F.entry_proto_collect ?_));rw [Tl.under_plainId F.plain_proto_collect _];show wpAny (model X.prog X.w) A.in1 (newList []>>=λl=>again (.builtin "list.__iadd__" #[[l,.ref r],[]])) _ _ s;refine Su (wpAny_newObj_type (S6 #[plainId_quiet F.plain_list_iadd _,GW (n:=n) (s:={s with heap:=s.heap.push {cls:=.type "list",data:=.seq ([]:List UU).toArray}}) hh (Sn _ hr) hn (SL _ rfl) λh' tk acc' c' hk hS' hacc=>?_]));show wpAny (model X.prog X.w) A (load s.heap.objs.size>>=_) _ _ _;exact Su (wpAny_load hS' (S6 (h h' tk acc'.toList (λb o e=>hk b o (Tu (SK e)) (Sn _ e)) (tT hacc))))
end
end L2
end
section
namespace L2
open PySem PySem.Spec PyProof.Rows PySem.W
section
variable {X:Cx} {pins:List (KE×Obj)} {σ:St} {H:Hp} {key:Nat->Int×Int} {f r:KE} {n:Nat} {E:UU->Se->Prop} {s:Se} {Q:UU->Se->Prop}
theorem CL (I:Inv X pins σ H s) (hx:X.ex=[]) (hc:X.calm=true) (hr:H r=some (.Fq 0 (n:Nat))) (hn:n<=1000) (run:CK X pins σ H f key n) (h:∀D s',GQ X pins σ H key D n s'->Q (.ref D) s'):
 wpAny (model X.prog X.w) X.A (call (.builtin "sorted") [.ref r] [(Sj "key",.ref f)]) Q E s:=by
 have big:1001<=sizeLine:=by rw [sizeLine_eq];decide
 obtain ⟨t,u,v,hro⟩:=I.a7 r _ hr;refine call_function_entry_kw kind_sorted plain_sorted entry_sorted (ksk_s1 _ _) ?_;unfold Builtin.«sorted»;refine Su (m:=checkCount "sorted" 1 1 _) (S6 (Su (As (X:=X) (A:=X.A.in1) (I.ok.hd hc) hro hn λh' tk vs hk hv=>?_)));have hvl:vs.length=n:=by have:=hv.length;rw [w4,TN] at this;exact this.symm
 have J:=I.kept (t':=tk) (h':=h') hk;have J2:=J.kept (t':=tk) (h':=h'.push {cls:=.type "list",data:=.seq vs.toArray}) λb u e=>Sn _ e;have ho:(h'.push {cls:=.type "list",data:=.seq vs.toArray}).get? h'.objs.size=some (seqObj "list" vs.toArray 0):=SL _ rfl;refine Su (wpAny_newList (Su (wpAny_holding (wpAny_call_entry_kw slot_list_sort #[_,ho,rfl] entry_list_sort ?_ (ksk_l1 _ _)))) (by omega));rw [ksk_t1 f h'.objs.size];refine GV (a:=h'.objs.size) (n0:=0) J2 hx ho (J.Cc (Sf _) (J.a7.fresh (Sf _))) hn hv run λs' hk=>#[_,rfl,S6 #[_,rfl,h _ s' hk]]
end
def tU (T:KE) (L C:Int) (q:Str) (yi:Nat) (tb:TE) (σ:St) (v:V) (H1:Hp) (Q:VK):Prop:=∃(r:KE) (n:Nat) (ps:Array UU) (key:Nat->Int×Int) (v0:V),v= .ref r/\H1 r=some (.Fq 0 (n:Nat))/\n<=1000/\σ[yi]? =some (some v0)/\H1 T=some (.jC ps)/\sy L C q H1 ps/\
 (∀i,i<n->∀H2,(∀b o,H1 b=some o->b≠T->H2 b=some o)->tb [some (.int (i:Nat)),some v0] H2 λv H3=>∃p,v= .ref p/\aj H2 H3/\I_ H3 p (key i))/\
 ∀(is:List Nat) (H':Hp) (D:KE),is.Perm (SR n)->is.Pairwise (λi j=>vy (key i) (key j))->(∀b o,H1 b=some o->b≠T->H' b=some o)->(∃ps,H' T=some (.jC ps)/\sy L C q H' ps)->H' D=some (.lst (is.map λi=>V.int (i:Nat)))->Q (.ref D) H'
noncomputable def At (T:KE) (L C:Int) (q:Str) (yi:Nat) (tr tb:TE):TE:=λσ H Q=>tr σ H λv H1=>tU T L C q yi tb σ v H1 Q
section
variable {X:Cx} {T cc c0:KE} {L C:Int} {q x0 y0:Str} {args:Arguments} {body e:Expr} {scope:Uz} {lpos p kp pos:Pos} {tr tb:TE} {yi k:Nat}
theorem CM (hr:cE k X.A) (hx:X.ex=[]) (hc:X.calm=true) (hg:Gl X "sorted") (hm:X.mg "sorted" =none) (Lm:RJ X T cc L C q args body scope lpos [(y0,c0)]) (S:Ar args body scope x0 y0) (hy:X.N[yi]? =some y0) (hyk:X.env.kindOf y0=some .cell) (hyc:X.env.cells.lookup y0=some c0)
 (ha:PE X e tr) (hb:∀(A:Tl) (s:Se) (H:Hp) (Lo f c':KE),PE (GN X A s H [x0,y0] (envX q scope Lo f (.ref c') [(y0,c0)])) body tb)
 (h1:backTo pos (starEach [e] X.env)=(false,eval e X.env)::backTo pos (starEach [] X.env):=by rfl) (h2:(backTo pos (starEach [e] X.env)).any (·.1)=false:=by rfl)
 (h3:(backToKw pos (keywordEach [#[some "key",.Lambda args body scope lpos,kp]] X.env)).all (·.1.isSome)=true:=by rfl) (h4:(backToKw pos (keywordEach [#[some "key",.Lambda args body scope lpos,kp]] X.env)).any (·.1.isNone)=false:=by rfl)
 (h5:starEach [e] X.env=(false,eval e X.env)::starEach [] X.env:=by rfl):
 PE X (.Call (.Name "sorted" p) [e] [#[some "key",.Lambda args body scope lpos,kp]] pos) (At T L C q yi tr tb):=by
 intro pins s σ H Q I h;refine Uv (qb I hg hm PyProof.Rows.boot_sorted ?_);have hA:PA X [e] (fN tr ly):=bY ha fi h5;refine callWith_kw (ci (hA pos pins s σ H (λvs H1=>match vs with|[v]=>tU T L C q yi tb σ v H1 Q|_=>False) I h) λus s1 hq=>?_) h1 h2 h3 h4;obtain ⟨vs,H1,I1,rv,hq⟩:=hq
 match vs,rv,hq with
 |[v],rv,hq=>
  obtain ⟨r,n,ps,key,v0,rfl,hr1,hn,hv0,hT,hps,hkey,fin⟩:=hq;rw [Vals.Ix rv];refine kws_cons (TJ (Ma Lm I1 hT hps) (λw s2 hw=>?_) λ_ _ z=>z);obtain ⟨f,c',pm,ctv,H2,rfl,Md⟩:=hw;refine kws_nil ?_;have hrT:r≠T:=λz=>by rw [z,hT] at hr1;cases hr1
  have I2:Inv X (pins++[(f,kla_obj "<lambda>" q args body scope [(y0,c0)] pm c' ctv)]) σ H2 s2:=Md.inv.xH λp hp=>by
   rcases (SU).mp hp with hp|hp
   .exact Md.inv.pin p (Tz _ hp)
   .rw [(SB).mp hp];exact #[Md.fn,Md.free,Md.nL,Md.R5,λv z=>nomatch z]
  refine CL I2 hx hc (Md.kp _ _ hr1 hrT) hn (key:=key) (λi hi H3 s3 u I3 s23 hu=>?_) λD s3 hK=>?_
  .obtain ⟨m,hm1,hm2⟩:=I3.loc;obtain ⟨w0,rw0,lk⟩:=hm2 yi y0 v0 hy hv0 (.inr (.inl hyk));rcases lk with ⟨lk,_⟩|⟨_,c1,lk1,lk2⟩
   .rw [hyk] at lk;cases lk
   rw [hyc] at lk1;cases lk1;have hf:=(I3.pin (f,kla_obj "<lambda>" q args body scope [(y0,c0)] pm c' ctv) (by simp)).1;obtain ⟨hrec,_⟩:=I3.a7 c' _ (s23 _ _ Md.cx);refine wpAny_call (codeAny_mono (Jb (A:=X.A.in1.in1) S I3 I3.ok.frames hr.hd (by have:=hr.depth;exact this) hf hrec lk2 rw0 (I3.gB _ _ hyc) hu (hb _ _ _ _ _ _) (hkey i hi H3 λb o e n=>s23 _ _ (Md.kp b o e n))) λrr s4 hR=>?_);cases rr with
   |error e=>exact hR.elim
   |ok fl=>
    cases fl with
    |next=>exact hR.elim
    |brk=>exact hR.elim
    |cont=>exact hR.elim
    |ret u'=>obtain ⟨v',H4,os,bare,un,a7,rv',p',rfl,s34,hp⟩:=hR;have e:u'= .ref p':=rv';subst e;exact #[p',H4,rfl,I3.wr (ch:=[]) os un a7 bare (λb z=>absurd z (by simp)),s34,hp,un]
  .obtain ⟨H3,is,I3,s23,hD,h6,h7⟩:=hK;refine #[.ref D,H3,I3.lx,rfl,fin is H3 D h6 h7 (λb o e n=>s23 _ _ (Md.kp b o e n)) ?_ hD];obtain ⟨ps',t1,t2⟩:=Md.tab;refine #[ps',s23 _ _ t1,?_];rcases t2 with t2|⟨a,t2,t3⟩
   .exact .inl t2
   .exact .inr #[a,t2,s23 _ _ t3]
 |[],rv,hq=>exact hq.elim
 |_::_::_,rv,hq=>exact hq.elim
end
end L2
end
section
namespace L2
open PySem PySem.Spec PyProof.Rows
inductive yj {α:Type} (p:α->Sp) (vs:List V) (H:Hp) (Q:VK) (E:XK):Prop
 |mk (a:α) (h:p a vs H Q E)
inductive Jf {α β:Type} (p:α->β->Sp) (vs:List V) (H:Hp) (Q:VK) (E:XK):Prop
 |mk (a:α) (b:β) (h:p a b vs H Q E)
inductive Fu {α β γ:Type} (p:α->β->γ->Sp) (vs:List V) (H:Hp) (Q:VK) (E:XK):Prop
 |mk (a:α) (b:β) (c:γ) (h:p a b c vs H Q E)
inductive Au {α β γ δ:Type} (p:α->β->γ->δ->Sp) (vs:List V) (H:Hp) (Q:VK) (E:XK):Prop
 |mk (a:α) (b:β) (c:γ) (d:δ) (h:p a b c d vs H Q E)
inductive Av {α β γ δ ε:Type} (p:α->β->γ->δ->ε->Sp) (vs:List V) (H:Hp) (Q:VK) (E:XK):Prop
 |mk (a:α) (b:β) (c:γ) (d:δ) (e:ε) (h:p a b c d e vs H Q E)
inductive J9 {α β γ δ ε ζ:Type} (p:α->β->γ->δ->ε->ζ->Sp) (vs:List V) (H:Hp) (Q:VK) (E:XK):Prop
 |mk (a:α) (b:β) (c:γ) (d:δ) (e:ε) (f:ζ) (h:p a b c d e f vs H Q E)
inductive RK {α β γ δ ε ζ η:Type} (p:α->β->γ->δ->ε->ζ->η->Sp) (vs:List V) (H:Hp) (Q:VK) (E:XK):Prop
 |mk (a:α) (b:β) (c:γ) (d:δ) (e:ε) (f:ζ) (g:η) (h:p a b c d e f g vs H Q E)
inductive R6 {α β γ δ ε ζ η θ:Type} (p:α->β->γ->δ->ε->ζ->η->θ->Sp) (vs:List V) (H:Hp) (Q:VK) (E:XK):Prop
 |mk (a:α) (b:β) (c:γ) (d:δ) (e:ε) (f:ζ) (g:η) (i:θ) (h:p a b c d e f g i vs H Q E)
inductive Q4 {α β γ δ ε ζ η θ ι:Type} (p:α->β->γ->δ->ε->ζ->η->θ->ι->Sp) (vs:List V) (H:Hp) (Q:VK) (E:XK):Prop
 |mk (a:α) (b:β) (c:γ) (d:δ) (e:ε) (f:ζ) (g:η) (i:θ) (j:ι) (h:p a b c d e f g i j vs H Q E)
inductive ON {α β γ δ ε ζ η θ ι κ:Type} (p:α->β->γ->δ->ε->ζ->η->θ->ι->κ->Sp) (vs:List V) (H:Hp) (Q:VK) (E:XK):Prop
 |mk (a:α) (b:β) (c:γ) (d:δ) (e:ε) (f:ζ) (g:η) (i:θ) (j:ι) (k:κ) (h:p a b c d e f g i j k vs H Q E)
theorem ifp {c:Prop} [d:Decidable c] {a b:Prop} (h:c) (q:a):if c then a else b:=(if_pos h).mpr q
theorem ifn {c:Prop} [d:Decidable c] {a b:Prop} (h:¬c) (q:b):if c then a else b:=(if_neg h).mpr q
theorem cE.m {j k:Nat} {A:Tl} (r:cE k A) (h:j<=k:=by decide):cE j A:=r.mono h
theorem Sa {Q:List UU->Prop} (h:Q []):∀us:List UU,us.length=0->Q us:=λus hl=>by
 cases us with
 |nil=>exact h
 |cons _ _=>exact nomatch hl
section
variable {X:Cx}
theorem bt (i:Nat) {x:Str} {e:Expr} {te:TE} {pos pos':Pos} (hN:X.N.Nodup) (he:PE X e te) (hi:X.N[i]? =some x:=by rfl) (hx:Loc X.env.scope x:=by first|exact Tk rfl|exact Tp rfl) (hs:swapsWith e (some (.Name x pos')) pos.line X.env=pure false:=by rfl)
 (hf:X.fn x=true\/X.env.scope.names.lookup x=some .local:=by first|exact .inl rfl|exact .inr rfl|assumption):PS X (.Assign [.Name x pos'] e pos) (Cb te (kZ i)):=KH hN hi hx he hs hf
theorem cR {a b:Expr} {ta tb:TE} {pos:Pos} (ha:PE X a ta) (hb:PE X b tb) (hs:xR b:=by exact λ_ _=>rfl):PE X (.Subscript a b pos) (Ih (F7 X.K) ta tb):=JU Iu ha hb hs
theorem k9 {a b:Expr} {ta tb:TE} {pos:Pos} (ha:PE X a ta) (hb:PE X b tb) (hs:xR b:=by exact λ_ _=>rfl):PE X (.Subscript a b pos) (Ih (Ir X.K) ta tb):=JU KS ha hb hs
theorem aV {e:Expr} {t:TE} (ha:PE X e t) (hs:starEach [e] X.env=(false,eval e X.env)::starEach [] X.env:=by rfl):PA X [e] (fN t ly):=bY ha fi hs
theorem cz {e f:Expr} {t u:TE} (ha:PE X e t) (hb:PE X f u) (hs:starEach [e,f] X.env=(false,eval e X.env)::starEach [f] X.env:=by rfl) (hs1:starEach [f] X.env=(false,eval f X.env)::starEach [] X.env:=by rfl):PA X [e,f] (fN t (fN u ly)):=bY ha (bY hb fi hs1) hs
theorem dH {e f g:Expr} {t u v:TE} (ha:PE X e t) (hb:PE X f u) (hc:PE X g v) (hs:starEach [e,f,g] X.env=(false,eval e X.env)::starEach [f,g] X.env:=by rfl) (hs1:starEach [f,g] X.env=(false,eval f X.env)::starEach [g] X.env:=by rfl) (hs2:starEach [g] X.env=(false,eval g X.env)::starEach [] X.env:=by rfl):PA X [e,f,g] (fN t (fN u (fN v ly))):=bY ha (bY hb (bY hc fi hs2) hs1) hs
theorem fW {k:Nat} {x:Str} {ps:List Str} {sp:Sp} {e:Expr} {es:List Expr} {t:TA} {p pos:Pos} (F:JY X.prog X.w X.K X.mg X.base d8 k x ps sp) (hr:cE k X.A) (ha:PA X (e::es) t) (hg:Gl X x:=by rfl) (hdb:(x==("__debug__" :Str))=false:=by decide)
 (he:starEach (e::es) X.env=(false,eval e X.env)::starEach es X.env:=by rfl) (hpl:(backTo pos (starEach es X.env)).any (·.1)=false:=by rfl):PE X (.Call (.Name x p) (e::es) [] pos) (tp sp [] E0 t):=tH F hr hg bq ha hdb he hpl
end
section
variable {P:SN} {w:S_} {K:UT} {mg:Str->Option UU} {base:Ti} {x m qual:Str} {st:Stmt} {N ps:List Str} {k:Nat} {C:KE} {sp:Sp}
theorem aG.g (D:aG K mg x st) (S:al N ps (ah st)) (len:∀vs H Q E,sp vs H Q E->vs.length=ps.length)
 (h:∀(f:KE) (cdv:UU) (A:Tl) (outer:List Env) (s:Se) (H:Hp) (vs:List V) (Q:VK) (E:XK),cE k (A.deeper (envOfC x (ah st) s.heap.objs.size f cdv))->sp vs H Q E->
  ∃t,uY (fj d8 P w K mg base N x (ah st) f cdv A outer s H E).FH (bL st) t/\t (En Q) (start N vs) H)
 (hb:∀(kV doc pm:UU) (an:Option KE) (cdv ct:UU) (us:List UU),us.length=ps.length->bindArgs (Ts x x (dr st) (bL st) (ah st) .none kV doc pm an cdv ct) #[us,[]]=pure (ps.zip us):=by first|exact λ_ _ _ _ _ _=>IR λ_=>by kernel_rfl|exact λ_ _ _ _ _ _=>Ov λ_ _=>by kernel_rfl|exact λ_ _ _ _ _ _=>M_ λ_ _ _=>by kernel_rfl|exact λ_ _ _ _ _ _=>Ow λ_ _ _ _=>by kernel_rfl|exact λ_ _ _ _ _ _=>Ox λ_ _ _ _ _=>by kernel_rfl):
 JY P w K mg base d8 (k+1) x ps sp:=D.Rm hb λf fd F=>F.ok S len (h f)
theorem aG.gX (D:aG K mg x st) (S:al N ps (ah st)) (len:∀vs H Q E,sp vs H Q E->vs.length=ps.length)
 (h:∀(f:KE) (cdv:UU) (A:Tl) (outer:List Env) (s:Se) (H:Hp) (vs:List V) (Q:VK) (E:XK),cE k (A.deeper (envOfC x (ah st) s.heap.objs.size f cdv))->sp vs H Q E->
  ∃t,uY (fj (cf P w) P w K mg base N x (ah st) f cdv A outer s H E) (bL st) t/\t (En Q) (start N vs) H)
 (hb:∀(kV doc pm:UU) (an:Option KE) (cdv ct:UU) (us:List UU),us.length=ps.length->bindArgs (Ts x x (dr st) (bL st) (ah st) .none kV doc pm an cdv ct) #[us,[]]=pure (ps.zip us):=by first|exact λ_ _ _ _ _ _=>IR λ_=>by kernel_rfl|exact λ_ _ _ _ _ _=>Ov λ_ _=>by kernel_rfl|exact λ_ _ _ _ _ _=>M_ λ_ _ _=>by kernel_rfl|exact λ_ _ _ _ _ _=>Ow λ_ _ _ _=>by kernel_rfl|exact λ_ _ _ _ _ _=>Ox λ_ _ _ _ _=>by kernel_rfl):
 JY P w K mg base (cf P w) (k+1) x ps sp:=D.Rm hb λf fd F=>F.M9 S len (h f)
theorem bK {f:KE} {cd:UU} {A:Tl} {outer:List Env} {s0:Se} {H0:Hp} {E:XK} {scope:Uz} {e:Expr} {es:List Expr} {t:TA} {p pos:Pos} (F:JY P w K mg base (cf P w) k x ps sp) (hr:cE k (fj (cf P w) P w K mg base N qual scope f cd A outer s0 H0 E).A) (ha:PA (fj (cf P w) P w K mg base N qual scope f cd A outer s0 H0 E) (e::es) t)
 (hg:Gl (fj (cf P w) P w K mg base N qual scope f cd A outer s0 H0 E) x:=by rfl) (hdb:(x==("__debug__" :Str))=false:=by decide) (he:starEach (e::es) (fj (cf P w) P w K mg base N qual scope f cd A outer s0 H0 E).env=(false,eval e (fj (cf P w) P w K mg base N qual scope f cd A outer s0 H0 E).env)::starEach es (fj (cf P w) P w K mg base N qual scope f cd A outer s0 H0 E).env:=by rfl)
 (hpl:(backTo pos (starEach es (fj (cf P w) P w K mg base N qual scope f cd A outer s0 H0 E).env)).any (·.1)=false:=by rfl):PE (fj (cf P w) P w K mg base N qual scope f cd A outer s0 H0 E) (.Call (.Name x p) (e::es) [] pos) (tp sp [] E t):=tH F hr hg (E:=E) iu ha hdb he hpl
theorem MethAt.g (D:MethAt K C m qual st) (cl:kW K C) (S:al N ps (ah st)) (len:∀vs H Q E,sp vs H Q E->vs.length=ps.length) (h:∀(f:KE) (cdv:UU) (A:Tl) (outer:List Env) (s:Se) (H:Hp) (vs:List V) (Q:VK) (E:XK),cE k (A.deeper (envOfC qual (ah st) s.heap.objs.size f cdv))->sp vs H Q E->∃t,uY (fj d8 P w K mg base N qual (ah st) f cdv A outer s H E).FH (bL st) t/\t (En Q) (start N vs) H) (hb:∀(kV doc pm:UU) (an:Option KE) (cdv ct:UU) (us:List UU),us.length=ps.length->bindArgs (Ts m qual (dr st) (bL st) (ah st) .none kV doc pm an cdv ct) #[us,[]]=pure (ps.zip us):=by first|exact λ_ _ _ _ _ _=>IR λ_=>by kernel_rfl|exact λ_ _ _ _ _ _=>Ov λ_ _=>by kernel_rfl|exact λ_ _ _ _ _ _=>M_ λ_ _ _=>by kernel_rfl|exact λ_ _ _ _ _ _=>Ow λ_ _ _ _=>by kernel_rfl|exact λ_ _ _ _ _ _=>Ox λ_ _ _ _ _=>by kernel_rfl):vw P w K mg base d8 (k+1) C m ps sp:=D.EM cl hb λf fd F=>F.ok S len (h f)
theorem MethAt.gX (D:MethAt K C m qual st) (cl:kW K C) (S:al N ps (ah st)) (len:∀vs H Q E,sp vs H Q E->vs.length=ps.length) (h:∀(f:KE) (cdv:UU) (A:Tl) (outer:List Env) (s:Se) (H:Hp) (vs:List V) (Q:VK) (E:XK),cE k (A.deeper (envOfC qual (ah st) s.heap.objs.size f cdv))->sp vs H Q E->∃t,uY (fj (cf P w) P w K mg base N qual (ah st) f cdv A outer s H E) (bL st) t/\t (En Q) (start N vs) H) (hb:∀(kV doc pm:UU) (an:Option KE) (cdv ct:UU) (us:List UU),us.length=ps.length->bindArgs (Ts m qual (dr st) (bL st) (ah st) .none kV doc pm an cdv ct) #[us,[]]=pure (ps.zip us):=by first|exact λ_ _ _ _ _ _=>IR λ_=>by kernel_rfl|exact λ_ _ _ _ _ _=>Ov λ_ _=>by kernel_rfl|exact λ_ _ _ _ _ _=>M_ λ_ _ _=>by kernel_rfl|exact λ_ _ _ _ _ _=>Ow λ_ _ _ _=>by kernel_rfl|exact λ_ _ _ _ _ _=>Ox λ_ _ _ _ _=>by kernel_rfl):vw P w K mg base (cf P w) (k+1) C m ps sp:=D.EM cl hb λf fd F=>F.M9 S len (h f)
theorem dU.g (D:dU K C qual st) (hm:mg x=some (.ref C)) (S:al N ps (ah st)) (len:∀vs H Q E,sp vs H Q E->vs.length=ps.length) (h:∀(f:KE) (cdv:UU) (A:Tl) (outer:List Env) (s:Se) (H:Hp) (vs:List V) (Q:VK) (E:XK),cE k (A.deeper (envOfC qual (ah st) s.heap.objs.size f cdv))->sp vs H Q E->∃t,uY (fj d8 P w K mg base N qual (ah st) f cdv A outer s H E).FH (bL st) t/\t (En Q) (start N vs) H) (hb:∀(kV doc pm:UU) (an:Option KE) (cdv ct:UU) (us:List UU),us.length=ps.length->bindArgs (Ts "__init__" qual (dr st) (bL st) (ah st) .none kV doc pm an cdv ct) #[us,[]]=pure (ps.zip us):=by first|exact λ_ _ _ _ _ _=>IR λ_=>by kernel_rfl|exact λ_ _ _ _ _ _=>Ov λ_ _=>by kernel_rfl|exact λ_ _ _ _ _ _=>M_ λ_ _ _=>by kernel_rfl|exact λ_ _ _ _ _ _=>Ow λ_ _ _ _=>by kernel_rfl|exact λ_ _ _ _ _ _=>Ox λ_ _ _ _ _=>by kernel_rfl):Gk P w K mg base d8 (k+1) C x ps sp:=D.Qd hm hb λf fd F=>F.ok S len (h f)
end
theorem zKx (CX:sm) (P:SN) (w:S_) (K:UT) (mg:Str->Option UU) (base:Ti) (N:List Str) (qual:Str) (scope:Uz) (f:KE) (cd:UU) (A:Tl) (outer:List Env) (s:Se) (H:Hp) (E:XK):(fj CX P w K mg base N qual scope f cd A outer s H E).K=K:=rfl
theorem zKn (X:Cx):X.FH.K=X.K:=rfl
end L2
end
section
section
namespace L2
open PySem PySem.Spec PyProof.Rows
open PySem.W (WData Codec OpenSpec Well WellAll ReadsW ReadsAllW)
mutual
inductive Dw (K:UT) (H:Hp):V->WData->Prop
 |bZ:Dw K H .bZ .none
 |bl (b:Bool):Dw K H (.bl b) (.bool b)
 |int (i:Int):Dw K H (.int i) (.int i)
 |str (x:Str):Dw K H (.str x) (.str x)
 |BL (b:Array UInt8):Dw K H (.BL b) (.bytes b.toList)
 |lst {a:KE} {xs:List V} {ds:List WData}:cB K H a xs->nk K H xs ds->Dw K H (.ref a) (.list ds)
 |tup {a:KE} {xs:List V} {ds:List WData}:ij K H a xs->nk K H xs ds->Dw K H (.ref a) (.tuple ds)
inductive nk (K:UT) (H:Hp):List V->List WData->Prop
 |nil:nk K H [] []
 |cons {v:V} {vs:List V} {d:WData} {ds:List WData}:Dw K H v d->nk K H vs ds->nk K H (v::vs) (d::ds)
end
theorem DU {K:UT} {H:Hp}:∀ns:List Int,nk K H (ns.map V.int) (ns.map WData.int)
 |[]=>.nil
 |n::r=>.cons (.int n) (DU r)
theorem DV {K:UT} {H:Hp}:∀(ns:List Int) (xs:List V),nk K H xs (ns.map WData.int)->xs=ns.map V.int
 |[],xs,h=>by cases h;rfl
 |n::r,xs,h=>by
  cases h with
  |cons h1 h2=>cases h1;rw [DV r _ h2]<;>rfl
section
variable {P:SN} {w:S_} {K:UT} {H:Hp} {h:Ti} {R:PySem.W.WRecords} {cl:Str->Option KE}
theorem Mc (a7:iO P w H h) (KX:K.In h) (q:cB K H a xs):∃(its:List UU) (o:Obj) (n:Nat),Vals xs its/\h.get? a=some o/\o.cls= .type "list" /\o.data= .seq its.toArray n:=by
 rcases q with q|⟨o,its,n,e,hc,_,hd,_,hv⟩
 .obtain ⟨_,its,n,hv,e⟩:=(show dE P w H h a (.lst xs) from q.ok a7);exact #[its,_,n,hv,e,rfl,rfl]
 .exact #[its.toList,o,n,hv,KX _ _ e,hc,by simp [hd]]
theorem Me (a7:iO P w H h) (KX:K.In h) (q:ij K H a xs):∃(its:List UU) (o:Obj) (n:Nat),Vals xs its/\h.get? a=some o/\o.cls= .type "tuple" /\o.data= .seq its.toArray n:=by
 rcases q with q|⟨o,its,n,e,hc,hd,_,hv⟩
 .obtain ⟨_,its,hv,o,e,hc,n,hd⟩:=(show dE P w H h a (.tup xs) from q.ok a7);exact #[its,o,n,hv,e,hc,hd]
 .exact #[its.toList,o,n,hv,KX _ _ e,hc,by simp [hd]]
mutual
theorem Dw.reads (a7:iO P w H h) (KX:K.In h):∀(d:WData) (v:V) (u:UU),Dw K H v d->RelV v u->∃as,ReadsW R cl h u d as
 | .none,_,_,x,r=>by cases x;cases r;exact #[_,ReadsW.none]
 | .bool b,_,_,x,r=>by cases x;cases r;exact #[_,ReadsW.bool b]
 | .int i,_,_,x,r=>by cases x;obtain ⟨t,rfl⟩:=r;exact #[_,ReadsW.int i t]
 | .str s,_,_,x,r=>by cases x;obtain ⟨t,rfl⟩:=r;exact #[_,ReadsW.str s t]
 | .bytes b,_,_,x,r=>by cases x;obtain ⟨t,rfl⟩:=r;exact #[_,ReadsW.bytes _ t]
 | .list ds,_,_,x,r=>by
   cases x with
   |lst hs ha=>cases r;obtain ⟨its,o,n,rv,ho,hc,hd⟩:=Mc a7 KX hs;obtain ⟨as,hr⟩:=Dw.readsAll a7 KX ds _ its ha rv;exact #[_,ReadsW.list ho hc hd hr]
 | .tuple ds,_,_,x,r=>by
   cases x with
   |tup hs ha=>cases r;obtain ⟨its,o,n,rv,ho,hc,hd⟩:=Me a7 KX hs;obtain ⟨as,hr⟩:=Dw.readsAll a7 KX ds _ its ha rv;exact #[_,ReadsW.tuple ho hc hd hr]
 | .float _,_,_,x,_=>by cases x
 | .dict _,_,_,x,_=>by cases x
 | .bytearray _,_,_,x,_=>by cases x
 | .set _,_,_,x,_=>by cases x
 | .frozenset _,_,_,x,_=>by cases x
 | .obj _ _,_,_,x,_=>by cases x
theorem Dw.readsAll (a7:iO P w H h) (KX:K.In h):∀(ds:List WData) (vs:List V) (us:List UU),nk K H vs ds->Vals vs us->∃as,ReadsAllW R cl h us ds as
 |[],_,_,x,r=>by cases x;cases r;exact #[_,ReadsAllW.nil]
 |d::ds,_,_,x,r=>by
  cases x with
  |cons h1 h2=>
   cases r with
   |cons r1 r2=>obtain ⟨as,q1⟩:=Dw.reads a7 KX d _ _ h1 r1;obtain ⟨bs,q2⟩:=Dw.readsAll a7 KX ds _ _ h2 r2;exact #[_,ReadsAllW.cons q1 q2]
end
end
mutual
noncomputable def DW:WData->Bool
 | .none=>true
 | .bool _=>true
 | .int _=>true
 | .str _=>true
 | .bytes _=>true
 | .list xs=>rM xs
 | .tuple xs=>rM xs
 |_=>false
noncomputable def rM:List WData->Bool
 |[]=>true
 |x::r=>DW x&&rM r
end
theorem Aw {α:Type} {f:α->WData} (h:∀a,DW (f a)=true):∀l:List α,rM (l.map f)=true
 |[]=>rfl
 |x::r=>by show (DW (f x)&&rM (r.map f))=true;rw [h x,Aw h r]<;>rfl
theorem lH:∀(c:Codec) (a:c.denote),DW (c.enc a)=true
 | .unit,_=>rfl
 | .bool,_=>rfl
 | .int _ _,_=>rfl
 | .nat _ _,_=>rfl
 | .u8,_=>rfl
 | .bytes _ _,_=>rfl
 | .text _ _ _ _,_=>rfl
 | .list _ _ c,a=>Aw (λx=>lH c x) a
 | .pair c d,a=>by show (DW (c.enc a.1)&&(DW (d.enc a.2)&&true))=true;rw [lH c a.1,lH d a.2]<;>rfl
 | .triple c d e,a=>by show (DW (c.enc a.1)&&(DW (d.enc a.2.1)&&(DW (e.enc a.2.2)&&true)))=true;rw [lH c a.1,lH d a.2.1,lH e a.2.2]<;>rfl
 | .option c,none=>rfl
 | .option c,some x=>lH c x
theorem wQ:∀(cs:List Codec) (a:Codec.denoteAll cs),rM (Codec.encAll cs a)=true
 |[],_=>rfl
 |c::cs,a=>by show (DW (c.enc a.1)&&rM (Codec.encAll cs a.2))=true;rw [lH c a.1,wQ cs a.2]<;>rfl
theorem nY:∀{xs:List WData} {d:WData},d∈xs->d.weight<=WData.weightAll xs
 |[],d,h=>absurd h (by simp)
 |x::r,d,h=>by
  show d.weight<=x.weight+1+WData.weightAll r;rcases (Sg).mp h with e|m
  .rw [e];omega
  .have z:=nY m;omega
noncomputable def toV:UU->V
 | .none=>.bZ
 | .bool b=>.bl b
 | .int i _=>.int i
 | .str x _=>.str x
 | .bytes b _=>.BL b
 | .ref a=>.ref a
 |_=>.bZ
noncomputable def ER (A:List KE):UU->Prop
 | .none=>True
 | .bool _=>True
 | .int _ _=>True
 | .str _ _=>True
 | .bytes _ _=>True
 | .ref a=>a∈A
 |_=>False
theorem ER.mono (h:∀a∈A,a∈B):∀{u:UU},ER A u->ER B u:=λ{u} x=>by
 cases u with
 |ref a=>exact h a x
 |none=>trivial
 |bool b=>trivial
 |int i t=>trivial
 |str s t=>trivial
 |bytes b t=>trivial
 |_=>exact TD x
theorem GX (x:ER A u):RelV (toV u) u:=by
 cases u with
 |ref a=>rfl
 |none=>rfl
 |bool b=>rfl
 |int i t=>exact #[t,rfl]
 |str s t=>exact #[t,rfl]
 |bytes b t=>exact #[t,rfl]
 |_=>exact TD x
theorem jL:∀{vs:List UU},(∀u∈vs,ER A u)->Vals (vs.map toV) vs
 |[],_=>.nil
 |u::r,h=>.cons (GX (h u (Sk ..))) (jL λx hx=>h x (Sh _ hx))
def lI (h:Ti) (A:List KE) (a:KE):Prop:=∃vs:List UU,vs.length<=sizeLine/\(∀u∈vs,ER A u)/\
 (h.get? a=some {cls:=.type "list",data:=.seq vs.toArray}\/h.get? a=some {cls:=.type "tuple",data:=.seq vs.toArray})
theorem lI.mono (k:∀a∈A,a∈B) (x:lI h A a):lI h B a:=by obtain ⟨vs,h1,h2,h3⟩:=x;exact #[vs,h1,λu hu=>(h2 u hu).mono k,h3]
theorem iU:∀{vs:List UU} {ds:List WData},WellAll P h vs ds->vs.length=ds.length
 |_,_,.nil=>rfl
 |_,_,.cons _ b=>by show _+1=_+1;rw [iU b]
theorem wR (x:Well P h v (.list ds)):∃(a:KE) (vs:List UU),v= .ref a/\h.get? a=some {cls:=.type "list",data:=.seq vs.toArray}/\WellAll P h vs ds:=by
 cases x with
 |list ho hall=>exact #[_,_,rfl,ho,hall]
theorem tV (x:Well P h v (.tuple ds)):∃(a:KE) (vs:List UU),v= .ref a/\h.get? a=some {cls:=.type "tuple",data:=.seq vs.toArray}/\WellAll P h vs ds:=by
 cases x with
 |tuple ho hall=>exact #[_,_,rfl,ho,hall]
theorem wS (x:WellAll P h us (d::ds)):∃(v:UU) (vs:List UU),us=v::vs/\Well P h v d/\WellAll P h vs ds:=by
 cases x with
 |cons a b=>exact #[_,_,rfl,a,b]
theorem DX {n:Nat} (h:n<=1048576):n<=sizeLine:=SA h (by decide)
section
variable {P:Params} {h:Ti}
mutual
theorem GY:∀(d:WData) (v:UU),Well P h v d->DW d=true->d.weight<=1048576->∃A:List KE,ER A v/\∀a∈A,lI h A a
 | .none,_,x,_,_=>by cases x;exact #[[],trivial,λa m=>absurd m (by simp)]
 | .bool b,_,x,_,_=>by cases x;exact #[[],trivial,λa m=>absurd m (by simp)]
 | .int i,_,x,_,_=>by cases x;exact #[[],trivial,λa m=>absurd m (by simp)]
 | .str s,_,x,_,_=>by cases x;exact #[[],trivial,λa m=>absurd m (by simp)]
 | .bytes b,_,x,_,_=>by cases x;exact #[[],trivial,λa m=>absurd m (by simp)]
 | .list ds,_,x,p,z=>by
   obtain ⟨a,vs,rfl,ho,hall⟩:=wR x;have z2:WData.weightAll ds<=1048576:=z;obtain ⟨A,h1,h2⟩:=oY ds _ hall p λd hd=>SA (nY hd) z2;have k:∀b∈A,b∈a::A:=λb hb=>Sh _ hb;refine #[a::A,Sk ..,λb hb=>?_];rcases (Sg).mp hb with e|m
   .rw [e];exact #[vs,DX (by rw [iU hall];exact SA (PySem.W.length_le_weightAllW ds) z2),λu hu=>(h1 u hu).mono k,.inl ho]
   .exact (h2 b m).mono k
 | .tuple ds,_,x,p,z=>by
   obtain ⟨a,vs,rfl,ho,hall⟩:=tV x;have z2:WData.weightAll ds<=1048576:=z;obtain ⟨A,h1,h2⟩:=oY ds _ hall p λd hd=>SA (nY hd) z2;have k:∀b∈A,b∈a::A:=λb hb=>Sh _ hb;refine #[a::A,Sk ..,λb hb=>?_];rcases (Sg).mp hb with e|m
   .rw [e];exact #[vs,DX (by rw [iU hall];exact SA (PySem.W.length_le_weightAllW ds) z2),λu hu=>(h1 u hu).mono k,.inr ho]
   .exact (h2 b m).mono k
 | .float _,_,_,p,_=>To (show false=true from p)
 | .dict _,_,_,p,_=>To (show false=true from p)
 | .bytearray _,_,_,p,_=>To (show false=true from p)
 | .set _,_,_,p,_=>To (show false=true from p)
 | .frozenset _,_,_,p,_=>To (show false=true from p)
 | .obj _ _,_,_,p,_=>To (show false=true from p)
theorem oY:∀(ds:List WData) (vs:List UU),WellAll P h vs ds->rM ds=true->(∀d∈ds,d.weight<=1048576)->∃A:List KE,(∀u∈vs,ER A u)/\∀a∈A,lI h A a
 |[],_,x,_,_=>by cases x;exact #[[],λu m=>absurd m (by simp),λa m=>absurd m (by simp)]
 |d::ds,_,x,p,z=>by
  obtain ⟨v,vs,rfl,x1,x2⟩:=wS x;have q:DW d=true/\rM ds=true:=Bool.and_eq_true_iff.mp p;obtain ⟨A,a1,a2⟩:=GY d v x1 q.1 (z d (Sk ..));obtain ⟨B,b1,b2⟩:=oY ds vs x2 q.2 λe he=>z e (Sh _ he);have kA:∀b∈A,b∈A++B:=λb hb=>(SU).mpr (.inl hb);have kB:∀b∈B,b∈A++B:=λb hb=>(SU).mpr (.inr hb);refine #[A++B,λu hu=>?_,λb hb=>?_]
  .rcases (Sg).mp hu with e|m
   .rw [e];exact a1.mono kA
   .exact (b1 u m).mono kB
  .rcases (SU).mp hb with m|m
   .exact (a2 b m).mono kA
   .exact (b2 b m).mono kB
end
end
noncomputable def Jg (o:Obj):Option HO:=match o.data with
 | .seq vs _=>if (o.cls==UU.type "list")=true then some (.u0 o (.lst (vs.toList.map toV))) else some (.u0 o (.tup (vs.toList.map toV)))
 |_=>none
noncomputable def lg (K:UT) (h:Ti) (A:List KE):Hp:=λb=>if b∈A then (if (K.lookup b).isNone=true then (h.get? b).bind Jg else none) else none
def J_ (H:Hp):Prop:=∀b,H b=none\/∃o u,H b=some (.u0 o u)
theorem Ax (vs:List UU):Jg {cls:=.type "list",data:=.seq vs.toArray}=some (.u0 {cls:=.type "list",data:=.seq vs.toArray} (.lst (vs.map toV))):=by show (if (UU.type "list" ==UU.type "list")=true then some (HO.u0 {cls:=.type "list",data:=.seq vs.toArray} (.lst (vs.toArray.toList.map toV))) else some (HO.u0 {cls:=.type "list",data:=.seq vs.toArray} (.tup (vs.toArray.toList.map toV))))=_;rw [if_pos (beq_self_eq_true _)]
theorem Ay (vs:List UU):Jg {cls:=.type "tuple",data:=.seq vs.toArray}=some (.u0 {cls:=.type "tuple",data:=.seq vs.toArray} (.tup (vs.map toV))):=by show (if (UU.type "tuple" ==UU.type "list")=true then some (HO.u0 {cls:=.type "tuple",data:=.seq vs.toArray} (.lst (vs.toArray.toList.map toV))) else some (HO.u0 {cls:=.type "tuple",data:=.seq vs.toArray} (.tup (vs.toArray.toList.map toV))))=_;rw [if_neg (by decide)]
section
variable {P:SN} {w:S_} {K:UT} {h:Ti} {A:List KE}
theorem sA (hb:b∈A) (hk:K.lookup b=none) (e:h.get? b=some o):lg K h A b=Jg o:=by unfold lg;rw [if_pos hb,hk,if_pos (show (none:Option Obj).isNone=true from rfl),e]<;>rfl
theorem Jh (q:lg K h A b=some u):b∈A/\K.lookup b=none:=by
 unfold lg at q;by_cases hb:b∈A
 .rw [if_pos hb] at q;cases hk:K.lookup b with
  |none=>exact #[hb,rfl]
  |some o=>rw [hk,if_neg (by simp)] at q;cases q
 .rw [if_neg hb] at q;cases q
theorem oZ (ar:∀a∈A,lI h A a) (q:lg K h A b=some u):K.lookup b=none/\∃vs:List UU,vs.length<=sizeLine/\(∀u∈vs,ER A u)/\
 ((h.get? b=some {cls:=.type "list",data:=.seq vs.toArray}/\u= .u0 {cls:=.type "list",data:=.seq vs.toArray} (.lst (vs.map toV)))\/
  (h.get? b=some {cls:=.type "tuple",data:=.seq vs.toArray}/\u= .u0 {cls:=.type "tuple",data:=.seq vs.toArray} (.tup (vs.map toV)))):=by
 obtain ⟨hb,hk⟩:=Jh q;obtain ⟨vs,h1,h2,h3⟩:=ar b hb;refine #[hk,vs,h1,h2,?_];rcases h3 with e|e
 .rw [sA hb hk e,Ax] at q;exact .inl #[e,(Sd q).symm]
 .rw [sA hb hk e,Ay] at q;exact .inr #[e,(Sd q).symm]
theorem ES (ar:∀a∈A,lI h A a):J_ (lg K h A):=λb=>by
 cases q:lg K h A b with
 |none=>exact .inl rfl
 |some u=>
  obtain ⟨_,vs,_,_,⟨_,e⟩|⟨_,e⟩⟩:=oZ ar q
  .exact .inr #[_,_,by rw [e]]
  .exact .inr #[_,_,by rw [e]]
theorem sB {c c':UU} {vs us:List UU} (e:(some {cls:=c,data:=.seq vs.toArray}:Option Obj)=some {cls:=c',data:=.seq us.toArray}):c=c'/\vs=us:=by have e1:=Sd e;have e2:c=c':=congrArg Obj.cls e1;have e3:Data.seq vs.toArray=Data.seq us.toArray:=congrArg Obj.data e1;injection e3 with e4;refine #[e2,?_];have e5:=congrArg Array.toList e4;simpa using e5
theorem Q5 (KX:K.In h) (ar:∀a∈A,lI h A a) {a:KE} {vs:List UU} (ha:a∈A) (e:h.get? a=some {cls:=.type "list",data:=.seq vs.toArray}):(∀u∈vs,ER A u)/\cB K (lg K h A) a (vs.map toV):=by
 obtain ⟨us,h1,h2,h3⟩:=ar a ha;have hu:us=vs:=by
  rcases h3 with q|q
  .rw [e] at q;exact (sB q).2.symm
  .rw [e] at q;exact absurd (UU.type.inj (sB q).1) (by decide)
 subst hu;refine #[h2,?_];cases hk:K.lookup a with
 |none=>exact .inl (.inr #[_,by rw [sA ha hk e,Ax]])
 |some o=>have e2:=KX a o hk;rw [e] at e2;obtain rfl:=Sd e2;exact .inr #[_,us.toArray,_,hk,rfl,rfl,rfl,by rw [Sv];exact h1,by simpa using jL h2]
theorem Q6 (KX:K.In h) (ar:∀a∈A,lI h A a) {a:KE} {vs:List UU} (ha:a∈A) (e:h.get? a=some {cls:=.type "tuple",data:=.seq vs.toArray}):(∀u∈vs,ER A u)/\ij K (lg K h A) a (vs.map toV):=by
 obtain ⟨us,h1,h2,h3⟩:=ar a ha;have hu:us=vs:=by
  rcases h3 with q|q
  .rw [e] at q;exact absurd (UU.type.inj (sB q).1) (by decide)
  .rw [e] at q;exact (sB q).2.symm
 subst hu;refine #[h2,?_];cases hk:K.lookup a with
 |none=>exact .inl (.inr #[_,by rw [sA ha hk e,Ay]])
 |some o=>have e2:=KX a o hk;rw [e] at e2;obtain rfl:=Sd e2;exact .inr #[_,us.toArray,_,hk,rfl,rfl,by rw [Sv];exact h1,by simpa using jL h2]
mutual
theorem Mf {Pm:Params} (KX:K.In h) (ar:∀a∈A,lI h A a):∀(d:WData) (v:UU),Well Pm h v d->DW d=true->ER A v->Dw K (lg K h A) (toV v) d
 | .none,_,x,_,_=>by cases x;exact .bZ
 | .bool b,_,x,_,_=>by cases x;exact .bl b
 | .int i,_,x,_,_=>by cases x;exact .int i
 | .str s,_,x,_,_=>by cases x;exact .str s
 | .bytes b,_,x,_,_=>by cases x;have z:=Dw.BL (K:=K) (H:=lg K h A) b.toArray;exact z
 | .list ds,_,x,p,hu=>by obtain ⟨a,vs,rfl,ho,hall⟩:=wR x;obtain ⟨h2,hs⟩:=Q5 KX ar hu ho;exact .lst hs (yo KX ar ds _ hall p h2)
 | .tuple ds,_,x,p,hu=>by obtain ⟨a,vs,rfl,ho,hall⟩:=tV x;obtain ⟨h2,hs⟩:=Q6 KX ar hu ho;exact .tup hs (yo KX ar ds _ hall p h2)
 | .float _,_,_,p,_=>To (show false=true from p)
 | .dict _,_,_,p,_=>To (show false=true from p)
 | .bytearray _,_,_,p,_=>To (show false=true from p)
 | .set _,_,_,p,_=>To (show false=true from p)
 | .frozenset _,_,_,p,_=>To (show false=true from p)
 | .obj _ _,_,_,p,_=>To (show false=true from p)
theorem yo {Pm:Params} (KX:K.In h) (ar:∀a∈A,lI h A a):∀(ds:List WData) (vs:List UU),WellAll Pm h vs ds->rM ds=true->(∀u∈vs,ER A u)->nk K (lg K h A) (vs.map toV) ds
 |[],_,x,_,_=>by cases x;exact .nil
 |d::ds,_,x,p,hu=>by obtain ⟨v,vs,rfl,x1,x2⟩:=wS x;have q:DW d=true/\rM ds=true:=Bool.and_eq_true_iff.mp p;exact .cons (Mf KX ar d v x1 q.1 (hu _ (Sk ..))) (yo KX ar ds vs x2 q.2 λu m=>hu u (Sh _ m))
end
end
theorem tW (h:WData.layableAll ds=true):∀d∈ds,d.weight<=1048576:=λd hd=>(PySem.W.layableW_iff.mp ((Th).mp h d hd)).2.2
end L2
end
end
section
namespace OLm
open VbptaaCore
theorem vz (y:Nat) (h:2000<=y):((beforeYear y:Nat):Int)=365*((y:Int)- 2000)+(((y:Int)- 2000+3)/4 -((y:Int)- 2000+99)/100+((y:Int)- 2000+399)/400):=by unfold beforeYear FIRST;simp only;omega
theorem ji (y:Nat) (h:2000<=y):365*(y - 2000)<=beforeYear y:=by unfold beforeYear FIRST;simp only;omega
theorem Q7 (k:Nat):(k+1+3)/4=(k+3)/4+(if k%4=0 then 1 else 0):=by split<;>omega
theorem Mg (k:Nat):(k+1+99)/100=(k+99)/100+(if k%100=0 then 1 else 0):=by split<;>omega
theorem Mh (k:Nat):(k+1+399)/400=(k+399)/400+(if k%400=0 then 1 else 0):=by split<;>omega
theorem OO (k:Nat):(k+99)/100<=365*k:=by omega
theorem Az (k:Nat):leap (2000+k)=true↔(k%4=0/\(k%100≠0\/k%400=0)):=by
 have e1:(2000+k)%4=k%4:=by omega
 have e2:(2000+k)%100=k%100:=by omega
 have e3:(2000+k)%400=k%400:=by omega
 unfold leap;rw [e1,e2,e3];simp
theorem o4 (k:Nat):beforeYear (2000+k)=365*k+(k+3)/4+(k+399)/400 -(k+99)/100:=by unfold beforeYear FIRST;simp only;rw [show 2000+k - 2000=k from by omega]
theorem fc (y:Nat) (h:2000<=y):beforeYear (y+1)=beforeYear y+(if leap y=true then 366 else 365):=by
 obtain ⟨k,rfl⟩:∃k,y=2000+k:=#[y - 2000,by omega];have l:=OO k;have e4:=Q7 k;have e100:=Mg k;have e400:=Mh k;rw [show 2000+k+1=2000+(k+1) from by omega,o4,o4,e4,e100,e400];clear e4 e100 e400 h;generalize (k+3)/4=a at*;generalize (k+99)/100=b at*;generalize (k+399)/400=c at*;by_cases q:leap (2000+k)=true
 .rw [if_pos q];obtain ⟨q1,q2⟩:=(Az k).mp q;rw [if_pos q1];by_cases q3:k%100=0
  .rw [if_pos q3,if_pos (q2.resolve_left λz=>z q3)];omega
  .rw [if_neg q3,if_neg (by omega)];omega
 .rw [if_neg q];have q':¬(k%4=0/\(k%100≠0\/k%400=0)):=λz=>q ((Az k).mpr z);by_cases q1:k%4=0
  .have q3:k%100=0:=Decidable.byContradiction λz=>q' #[q1,.inl z];have q4:¬k%400=0:=λz=>q' #[q1,.inr z];rw [if_pos q1,if_pos q3,if_neg q4];omega
  .rw [if_neg q1,if_neg (by omega),if_neg (by omega)];omega
theorem fe (y:Nat):beforeMonth y 1=0:=rfl
theorem dh (y m:Nat) (h:1<=m):beforeMonth y (m+1)=beforeMonth y m+monthDays y m:=by obtain ⟨k,rfl⟩:∃k,m=k+1:=#[m - 1,by omega];unfold beforeMonth;rw [show k+1+1 - 1=k+1 from by omega,show k+1 - 1=k from by omega,Uq,Sw,List.foldl_append];rfl
theorem yp (y m:Nat):monthDays y m<=31:=by
 unfold monthDays;split
 .split<;>omega
 .split<;>omega
theorem kq (y m:Nat):28<=monthDays y m:=by
 unfold monthDays;split
 .split<;>omega
 .split<;>omega
theorem qW (y:Nat):beforeMonth y 13=if leap y=true then 366 else 365:=by
 unfold beforeMonth monthDays;by_cases c:leap y=true
 .rw [if_pos c];simp [Uq,c]
 .rw [if_neg c];simp [Uq,c]
theorem nl (f y n:Nat) (h:beforeYear (y+1)<=n):yearFrom (f+1) y n=yearFrom f (y+1) n:=by show (if beforeYear (y+1)<=n then yearFrom f (y+1) n else y)=_;rw [if_pos h]
theorem nu (f y n:Nat) (h:¬beforeYear (y+1)<=n):yearFrom f y n=y:=by
 cases f with
 |zero=>rfl
 |succ f=>show (if beforeYear (y+1)<=n then yearFrom f (y+1) n else y)=_;rw [if_neg h]
theorem vA (f y n:Nat) (h2:2000<=y) (e:y+f=2000+n/365+1) (h:beforeYear (y+1)<=n):0<f:=by have:=ji (y+1) (by omega);omega
theorem tX (n:Nat):yearOf n=yearFrom (n/365+1 - n/366) (2000+n/366) n:=rfl
theorem GZ (n:Nat):n/366<=n/365:=by omega
theorem qX:∀(f y n:Nat),y<=yearFrom f y n
 |0,y,n=>Sf y
 |f+1,y,n=>by
  show y<=(if beforeYear (y+1)<=n then yearFrom f (y+1) n else y);split
  .exact SA (Nat.le_succ y) (qX f (y+1) n)
  .exact Sf y
theorem eJ (n:Nat):2000<=yearOf n:=by rw [tX];exact SA (Nat.le_add_right _ _) (qX _ _ _)
theorem tY (n:Nat):∀(f y:Nat),2000<=y->y+f=2000+n/365+1->beforeYear y<=n->beforeYear (yearFrom f y n)<=n/\n<beforeYear (yearFrom f y n+1):=by
 intro f;induction f with
 |zero=>intro y h2 e h;have:=ji (y+1) (by omega);rw [yearFrom];exact #[h,by omega]
 |succ f ih=>
  intro y h2 e h;by_cases c:beforeYear (y+1)<=n
  .rw [nl f y n c];exact ih (y+1) (by omega) (by omega) c
  .rw [nu (f+1) y n c];exact #[h,by omega]
theorem vB (k:Nat):beforeYear (2000+k)<=366*k:=by unfold beforeYear FIRST;simp only;omega
theorem dw (n:Nat):beforeYear (yearOf n)<=n/\n<beforeYear (yearOf n+1):=by rw [tX];have h:=GZ n;refine tY n (n/365+1 - n/366) (2000+n/366) (by omega) (by omega) ?_;have:=vB (n/366);omega
theorem ET (n:Nat):yearOf n<=2000+n/365:=by have h:=(dw n).1;have g:=ji (yearOf n) (eJ n);omega
theorem lJ (f y m r:Nat) (h:monthDays y m<=r):monthFrom (f+1) y m r=monthFrom f y (m+1) (r - monthDays y m):=by show (if monthDays y m<=r then monthFrom f y (m+1) (r - monthDays y m) else ⟨y,m,r+1⟩)=_;rw [if_pos h]
theorem iw (f y m r:Nat) (h:¬monthDays y m<=r):monthFrom f y m r=⟨y,m,r+1⟩:=by
 cases f with
 |zero=>rfl
 |succ f=>show (if monthDays y m<=r then monthFrom f y (m+1) (r - monthDays y m) else #[y,m,r+1])=_;rw [if_neg h]
end OLm
end
section
namespace OLm
open VbptaaCore
theorem lK (y:Nat):∀(f m r:Nat),1<=m->m+f=12->beforeMonth y m+r<beforeMonth y 13->
 (monthFrom f y m r).y=y/\m<=(monthFrom f y m r).m/\(monthFrom f y m r).m<=12/\1<=(monthFrom f y m r).d/\(monthFrom f y m r).d<=monthDays y (monthFrom f y m r).m/\beforeMonth y (monthFrom f y m r).m+((monthFrom f y m r).d - 1)=beforeMonth y m+r
 |0,m,r,h1,h2,h3=>by
  have e:m=12:=by omega
  subst e;rw [show (13:Nat)=12+1 from rfl,dh y 12 (by omega)] at h3;rw [iw 0 y 12 r (by omega)];exact #[rfl,Sf _,Sf _,by show 1<=r+1;omega,by show r+1<=monthDays y 12;omega,by show beforeMonth y 12+(r+1 - 1)=_;omega]
 |f+1,m,r,h1,h2,h3=>by
  by_cases c:monthDays y m<=r
  .rw [lJ f y m r c];have e:=dh y m h1;obtain ⟨a1,a2,a3,a4,a5,a6⟩:=lK y f (m+1) (r - monthDays y m) (by omega) (by omega) (by omega);exact #[a1,by omega,a3,a4,a5,by omega]
  .rw [iw (f+1) y m r c];exact #[rfl,Sf _,by show m<=12;omega,by show 1<=r+1;omega,by show r+1<=monthDays y m;omega,by show beforeMonth y m+(r+1 - 1)=_;omega]
theorem lL (n:Nat):(dateOf n).y=yearOf n/\1<=(dateOf n).m/\(dateOf n).m<=12/\1<=(dateOf n).d/\(dateOf n).d<=monthDays (yearOf n) (dateOf n).m/\dayOf (dateOf n)=n:=by obtain ⟨hy1,hy2⟩:=dw n;have hy0:=eJ n;rw [fc (yearOf n) hy0,<-qW] at hy2;have ed:dateOf n=monthFrom 11 (yearOf n) 1 (n - beforeYear (yearOf n)):=rfl;obtain ⟨a1,a2,a3,a4,a5,a6⟩:=lK (yearOf n) 11 1 (n - beforeYear (yearOf n)) (by omega) (by omega) (by rw [fe];omega);rw [<-ed] at a1 a2 a3 a4 a5 a6;refine #[a1,a2,a3,a4,a5,?_];unfold dayOf;rw [a1];rw [fe] at a6;omega
theorem AA {a b:Nat} (h:a<=b):yearOf a<=yearOf b:=by
 obtain ⟨a1,a2⟩:=dw a;obtain ⟨b1,b2⟩:=dw b;refine Nat.le_of_not_lt λc=>?_;have:beforeYear (yearOf b+1)<=beforeYear (yearOf a):=by
  have hb:=eJ b;obtain ⟨k,e⟩:∃k,yearOf a=yearOf b+1+k:=#[yearOf a - yearOf b - 1,by omega];rw [e];clear e c a1 a2 b1 b2;induction k with
  |zero=>exact Sf _
  |succ k ih=>rw [<-Nat.add_assoc,fc (yearOf b+1+k) (by omega)];omega
 omega
theorem iy (y:Nat) (h:2000<=y) (k:Nat):beforeYear y+365*k<=beforeYear (y+k):=by
 induction k with
 |zero=>exact Sf _
 |succ k ih=>rw [<-Nat.add_assoc,fc (y+k) (by omega)];split<;>omega
theorem AB {a b:Nat} (k:Nat) (h:a<=b) (hb:b<=a+365*k):yearOf b<=yearOf a+k:=by
 obtain ⟨a1,a2⟩:=dw a;obtain ⟨b1,b2⟩:=dw b;have ha:=eJ a;refine Nat.le_of_not_lt λc=>?_;have g:=iy (yearOf a+1) (by omega) k;have:beforeYear (yearOf a+1+k)<=beforeYear (yearOf b):=by have:=iy (yearOf a+1+k) (by omega) (yearOf b -(yearOf a+1+k));rw [show yearOf a+1+k+(yearOf b -(yearOf a+1+k))=yearOf b from by omega] at this;omega
 omega
theorem AC (n:Nat):monthEnd n=n+monthDays (dateOf n).y (dateOf n).m -(dateOf n).d:=by obtain ⟨a1,a2,a3,a4,a5,a6⟩:=lL n;unfold monthEnd;dsimp only;have e:dayOf (dateOf n)=beforeYear (dateOf n).y+beforeMonth (dateOf n).y (dateOf n).m+((dateOf n).d - 1):=rfl;have e2:dayOf ⟨(dateOf n).y,(dateOf n).m,monthDays (dateOf n).y (dateOf n).m⟩=beforeYear (dateOf n).y+beforeMonth (dateOf n).y (dateOf n).m+(monthDays (dateOf n).y (dateOf n).m - 1):=rfl;rw [<-a1] at a5;omega
theorem nZ (f:Nat->Nat) (inj:∀i j,f i=f j->i=j):∀(q:Nat) (T:List Nat),(∀j,j<q->f j∈T)->q<=T.length
 |0,_,_=>SW _
 |q+1,T,h=>by
  have hm:=h q (by omega);have:=nZ f inj q (T.erase (f q)) λj hj=>by refine (List.mem_erase_of_ne ?_).mpr (h j (by omega));intro e;have:=inj _ _ e;omega
  rw [List.length_erase_of_mem hm] at this;have:0<T.length:=List.length_pos_of_mem hm;omega
theorem AD (w n q:Nat) (hw:w<7) (T:List Nat) (h:T.length<q):∃d,n<=d/\d<n+7*q/\weekday d=w/\d∉T:=by
 obtain ⟨i,hi,e⟩:∃i,i<7/\(n+i+5)%7=w:=#[(w+7 -(n+5)%7)%7,by omega,by omega];refine S7 λc=>?_;have:=nZ (λj=>n+i+7*j) (λa b e=>by have:n+i+7*a=n+i+7*b:=e;omega) q T λj hj=>by refine S7 λm=>c #[n+i+7*j,by omega,by omega,?_,m];unfold weekday;omega
 omega
noncomputable def iV:Said->Bool
 | .feast _=>true
 |_=>false
noncomputable def o5 (c:Calendar):Nat:=c.countP iV
theorem cI (c:Calendar) (y:Nat):∀(l:List Said) (r:List (Nat×Nat)),(feastsFrom c y l r).length<=r.length+l.countP iV
 |[],r=>by simp [feastsFrom]
 |s::l,r=>by
  unfold feastsFrom;rw [List.countP_cons];cases s with
  |feast f=>
   have e:iV (.feast f)=true:=rfl;rw [if_pos e];dsimp only;cases feastDay f y with
   |none=>have:=cI c y l r;dsimp only;omega
   |some n=>dsimp only;refine SA (cI c y l _) ?_;rw [Sq];simp;omega
  |rest w=>have:=cI c y l r;dsimp only;omega
  |shut w=>have:=cI c y l r;dsimp only;omega
  |open_ w=>have:=cI c y l r;dsimp only;omega
theorem fm (c:Calendar) (y:Nat):(feasts c y).length<=o5 c:=by have:=cI c y c [];simpa [feasts,o5] using this
noncomputable def jM (c:Calendar):List Nat:=c.filterMap λs=>match s with
 | .shut x=>some (dayOf x)
 |_=>none
theorem o6 (c:Calendar):(jM c).length+o5 c<=c.length:=by
 unfold jM o5;induction c with
 |nil=>simp
 |cons s l ih=>
  rw [List.countP_cons];cases s with
  |feast f=>rw [List.filterMap_cons_none (by rfl),if_pos (by rfl)];simp only [Si];omega
  |shut x=>rw [List.filterMap_cons_some (b:=dayOf x) (by rfl),if_neg nofun];simp only [Si];omega
  |rest w=>rw [List.filterMap_cons_none (by rfl),if_neg nofun];simp only [Si];omega
  |open_ w=>rw [List.filterMap_cons_none (by rfl),if_neg nofun];simp only [Si];omega
theorem CN (c:Calendar) (n:Nat):shutOn c n=true↔n∈jM c:=by
 unfold shutOn jM;rw [UF,Ua];constructor
 .rintro ⟨s,hs,h⟩;refine #[s,hs,?_];cases s with
  |shut x=>exact congrArg some (eq_of_beq h)
  |feast f=>cases h
  |rest w=>cases h
  |open_ x=>cases h
 .rintro ⟨s,hs,h⟩;refine #[s,hs,?_];cases s with
  |shut x=>exact beq_iff_eq.mpr (Sd h)
  |feast f=>cases h
  |rest w=>cases h
  |open_ x=>cases h
structure jN (c:Calendar):Prop where
 len:c.length<=20
 free:∃w,w<7/\Said.rest w∉c
theorem tZ {c:Calendar} {w:Nat} (hw:Said.rest w∉c) {d:Nat} (e:weekday d=w):rests c d=false:=by
 cases h:rests c d with
 |false=>rfl
 |true=>
  unfold rests at h;rw [UF] at h;obtain ⟨s,hs,q⟩:=h;cases s with
  |rest v=>have:v=weekday d:=eq_of_beq q;rw [this,e] at hs;exact absurd hs hw
  |feast f=>cases q
  |shut x=>cases q
  |open_ x=>cases q
theorem least (p:Nat->Bool) (n:Nat):∀k,(∃d,n<=d/\d<n+k/\p d=true)->∃d,n<=d/\d<n+k/\p d=true/\∀x,n<=x->x<d->p x=false
 |0,⟨d,h1,h2,_⟩=>by omega
 |k+1,⟨d,h1,h2,h3⟩=>by
  by_cases c:∃d,n<=d/\d<n+k/\p d=true
  .obtain ⟨d,a,b,e,f⟩:=least p n k c;exact #[d,a,by omega,e,f]
  .have ed:d=n+k:=by refine S7 λz=>c #[d,h1,by omega,h3]
   subst ed;refine #[n+k,h1,by omega,h3,λx a b=>?_];cases e:p x with
   |false=>rfl
   |true=>exact absurd #[x,a,b,e] c
theorem AE (p:Nat->Bool) (n:Nat):∀k,(∃d,d<=n/\n<d+k/\p d=true)->∃d,d<=n/\n<d+k/\p d=true/\∀x,x<=n->d<x->p x=false
 |0,⟨d,h1,h2,_⟩=>by omega
 |k+1,⟨d,h1,h2,h3⟩=>by
  by_cases c:∃d,d<=n/\n<d+k/\p d=true
  .obtain ⟨d,a,b,e,f⟩:=AE p n k c;exact #[d,a,by omega,e,f]
  .have ed:n=d+k:=by refine S7 λz=>c #[d,h1,by omega,h3]
   subst ed;refine #[d,h1,by omega,h3,λx a b=>?_];cases e:p x with
   |false=>rfl
   |true=>exact absurd #[x,a,by omega,e] c
noncomputable def bad (c:Calendar) (taken:List Nat) (n:Nat):Bool:=rests c n||taken.contains n
theorem o7 (c:Calendar) (taken:List Nat) (d:Nat) (hd:bad c taken d=false):∀f n,n<d->d<=n+f->(∀x,n<x->x<d->bad c taken x=true)->freeAfter c taken f n=d
 |0,n,h1,h2,_=>by omega
 |f+1,n,h1,h2,h=>by
  unfold freeAfter;by_cases e:n+1=d
  .subst e;have:¬(rests c (n+1)||taken.contains (n+1))=true:=by unfold bad at hd;rw [hd];simp
   rw [if_neg this]
  .have:=h (n+1) (by omega) (by omega);unfold bad at this;rw [if_pos this];exact o7 c taken d hd f (n+1) (by omega) (by omega) λx a b=>h x (by omega) b
theorem G0 {c:Calendar} (K:jN c) (taken:List Nat) (hl:taken.length<=20) (n:Nat):∃d,n<=d/\d<n+147/\bad c taken d=false/\(∀x,n<=x->x<d->bad c taken x=true)/\
 (if (rests c n||taken.contains n)=true then freeAfter c taken 200 n else n)=d:=by
 obtain ⟨w,hw,hf⟩:=K.free;obtain ⟨d0,a0,b0,e0,f0⟩:=AD w n 21 hw taken (by omega);have hg:bad c taken d0=false:=by unfold bad;rw [tZ hf e0];simpa using f0
 obtain ⟨d,a,b,e,f⟩:=least (λx=>!bad c taken x) n 147 #[d0,a0,by omega,by simp [hg]];have hd:bad c taken d=false:=by simpa using e
 have hx:∀x,n<=x->x<d->bad c taken x=true:=λx h1 h2=>by simpa using f x h1 h2
 refine #[d,a,b,hd,hx,?_];by_cases c0:n=d
 .subst c0;unfold bad at hd;rw [if_neg (by rw [hd];simp)]
 .have:=hx n (Sf _) (by omega);unfold bad at this;rw [if_pos this];exact o7 c taken d hd 200 n (by omega) (by omega) λx h1 h2=>hx x (by omega) h2
noncomputable def ge (c:Calendar) (y:Nat):List Nat:=jM c++(SR 5).flatMap λi=>(feasts c (y - 1+i)).map (·.2)
theorem t4 {c:Calendar} (K:jN c) (y:Nat):(ge c y).length<=100:=by
 have h1:=o6 c;have h2:=K.len;have e:(ge c y).length=(jM c).length+((feasts c (y - 1+0)).length+((feasts c (y - 1+1)).length+((feasts c (y - 1+2)).length+((feasts c (y - 1+3)).length+(feasts c (y - 1+4)).length)))):=by unfold ge;rw [Sq,show SR 5=[0,1,2,3,4] from rfl];simp only [List.flatMap_cons,List.flatMap_nil,Sq,w4,Ur,Nat.add_zero]
 have f0:=fm c (y - 1+0);have f1:=fm c (y - 1+1);have f2:=fm c (y - 1+2);have f3:=fm c (y - 1+3);have f4:=fm c (y - 1+4);omega
theorem EU {c:Calendar} {y d:Nat} (h1:y<=yearOf d) (h2:yearOf d<=y+3) (hy:2000<=y) (hr:rests c d=false) (h:closed c d=true):d∈ge c y:=by
 unfold closed at h;dsimp only at h;rw [hr,S9,Bool.false_or,Us,Us,S9] at h;unfold ge;rw [SU,List.mem_flatMap];have key:∀y',y - 1<=y'->y'<=y+3->((feasts c y').any λx=>x.2==d)=true->∃a,a∈SR 5/\d∈(feasts c (y - 1+a)).map (·.2):=λy' a b q=>by refine #[y' -(y - 1),(TU).mpr (by omega),?_];rw [show y - 1+(y' -(y - 1))=y' from by omega];rw [UF] at q;obtain ⟨x,hx,e⟩:=q;exact (Te).mpr #[x,hx,eq_of_beq e]
 rcases h.2 with q|q|q
 .exact .inl ((CN c d).mp q)
 .exact .inr (key _ (by omega) (by omega) q)
 .have:=of_decide_eq_true q.1;unfold FIRST at this;exact .inr (key _ (by omega) (by omega) q.2)
theorem t5 {c:Calendar} (K:jN c) (n:Nat):∃d,n<=d/\d<n+994/\closed c d=false:=by
 obtain ⟨w,hw,hf⟩:=K.free;obtain ⟨d,a,b,e,f⟩:=AD w n 142 hw (ge c (yearOf n)) (by have:=t4 K (yearOf n);omega);refine #[d,a,by omega,?_];cases h:closed c d with
 |false=>rfl
 |true=>exact absurd (EU (AA a) (AB 3 a (by omega)) (eJ n) (tZ hf e) h) f
theorem qY (c:Calendar) (d:Nat) (hd:closed c d=false):∀f n,n<=d->d<n+f->(∀x,n<=x->x<d->closed c x=true)->nextFrom c f n=d
 |0,n,h1,h2,_=>by omega
 |f+1,n,h1,h2,h=>by
  unfold nextFrom;by_cases e:n=d
  .subst e;rw [if_neg (by rw [hd];simp)]
  .rw [if_pos (h n (Sf _) (by omega))];exact qY c d hd f (n+1) (by omega) (by omega) λx a b=>h x (by omega) b
theorem DY {c:Calendar} (K:jN c) (n:Nat):n<=nextOpen c n/\nextOpen c n<n+994/\closed c (nextOpen c n)=false/\∀x,n<=x->x<nextOpen c n->closed c x=true:=by
 obtain ⟨d0,a0,b0,e0⟩:=t5 K n;obtain ⟨d,a,b,e,f⟩:=least (λx=>!closed c x) n 994 #[d0,a0,b0,by simp [e0]];have hd:closed c d=false:=by simpa using e
 have hx:∀x,n<=x->x<d->closed c x=true:=λx h1 h2=>by simpa using f x h1 h2
 have:nextOpen c n=d:=qY c d hd SPAN n a (by unfold SPAN;omega) hx;rw [this];exact #[a,b,hd,hx]
theorem AF {c:Calendar} (K:jN c) (n:Nat) (hn:993<=n):∃d,d<=n/\n<d+994/\closed c d=false:=by obtain ⟨d,a,b,e⟩:=t5 K (n - 993);exact #[d,by omega,by omega,e]
theorem qZ (c:Calendar) (d:Nat) (hd:closed c d=false):∀f n,d<=n->n<d+f->(∀x,x<=n->d<x->closed c x=true)->lastFrom c f n=some d
 |0,n,h1,h2,_=>by omega
 |f+1,n,h1,h2,h=>by
  unfold lastFrom;by_cases e:n=d
  .subst e;rw [if_pos hd]
  .rw [if_neg (by rw [h n (Sf _) (by omega)];simp),if_neg (by omega)];exact qZ c d hd f (n - 1) (by omega) (by omega) λx a b=>h x (by omega) b
theorem nv (c:Calendar):∀f n,n<f->(∀x,x<=n->closed c x=true)->lastFrom c f n=none
 |0,n,_,_=>rfl
 |f+1,n,h1,h=>by
  unfold lastFrom;rw [if_neg (by rw [h n (Sf _)];simp)];by_cases e:n=0
  .rw [if_pos e]
  .rw [if_neg e];exact nv c f (n - 1) (by omega) λx a=>h x (by omega)
theorem yq {c:Calendar} (K:jN c) (n:Nat):(∃d,lastOpen c n=some d/\d<=n/\closed c d=false/\∀x,x<=n->d<x->closed c x=true)\/(lastOpen c n=none/\∀x,x<=n->closed c x=true):=by
 by_cases h:∃d,d<=n/\n<d+994/\closed c d=false
 .obtain ⟨d0,a0,b0,e0⟩:=h;obtain ⟨d,a,b,e,f⟩:=AE (λx=>!closed c x) n 994 #[d0,a0,b0,by simp [e0]];have hd:closed c d=false:=by simpa using e
  have hx:∀x,x<=n->d<x->closed c x=true:=λx h1 h2=>by simpa using f x h1 h2
  exact .inl #[d,qZ c d hd SPAN n a (by unfold SPAN;omega) hx,a,hd,hx]
 .have hn:n<993:=Nat.lt_of_not_le λz=>h (AF K n z);have hx:∀x,x<=n->closed c x=true:=λx hx=>by
   cases e:closed c x with
   |true=>rfl
   |false=>exact absurd #[x,hx,by omega,e] h
  exact .inr #[nv c SPAN n (by unfold SPAN;omega) hx,hx]
theorem cg (c:Calendar) (y:Nat):∀(l m:List Said) (r:List (Nat×Nat)),feastsFrom c y (l++m) r=feastsFrom c y m (feastsFrom c y l r)
 |[],m,r=>by rfl
 |s::l,m,r=>by
  rw [List.cons_append]
  conv=>lhs;unfold feastsFrom
  conv=>rhs;arg 4;unfold feastsFrom
  cases s with
  |feast f=>
   dsimp only;cases feastDay f y with
   |none=>exact cg c y l m r
   |some n=>exact cg c y l m _
  |rest w=>exact cg c y l m r
  |shut w=>exact cg c y l m r
  |open_ w=>exact cg c y l m r
noncomputable def aF (c:List Said):List Feast:=c.filterMap λs=>match s with
 | .feast f=>some f
 |_=>none
theorem cU (c:Calendar) (y:Nat):∀(l:List Said) (r:List (Nat×Nat)),feastsFrom c y l r=feastsFrom c y ((aF l).map .feast) r
 |[],r=>rfl
 |s::l,r=>by
  cases s with
  |feast f=>
   have e:aF (.feast f::l)=f::aF l:=rfl;rw [e,S1];unfold feastsFrom;dsimp only;cases feastDay f y with
   |none=>exact cU c y l r
   |some n=>exact cU c y l _
  |rest w=>have e:aF (.rest w::l)=aF l:=rfl;rw [e];exact cU c y l r
  |shut w=>have e:aF (.shut w::l)=aF l:=rfl;rw [e];exact cU c y l r
  |open_ w=>have e:aF (.open_ w::l)=aF l:=rfl;rw [e];exact cU c y l r
theorem jk (c:List Said):(aF c).length=c.countP iV:=by
 induction c with
 |nil=>rfl
 |cons s l ih=>
  rw [List.countP_cons];cases s with
  |feast f=>have e:aF (.feast f::l)=f::aF l:=rfl;rw [e,Si,ih,if_pos (show iV (.feast f)=true from rfl)]
  |rest w=>have e:aF (.rest w::l)=aF l:=rfl;rw [e,ih,if_neg nofun];rfl
  |shut w=>have e:aF (.shut w::l)=aF l:=rfl;rw [e,ih,if_neg nofun];rfl
  |open_ w=>have e:aF (.open_ w::l)=aF l:=rfl;rw [e,ih,if_neg nofun];rfl
end OLm
end
section
namespace OLm
open VbptaaCore Vbptaa
noncomputable def Apart:List (Nat×Nat)->Prop
 |[]=>True
 |[x]=>x.1<=x.2
 |x::y::l=>x.1<=x.2/\x.2+1<y.1/\Apart (y::l)
theorem Apart.tail {x:Nat×Nat} {l:List (Nat×Nat)} (h:Apart (x::l)):Apart l:=by
 cases l with
 |nil=>trivial
 |cons y l=>exact h.2.2
theorem Apart.head {x:Nat×Nat} {l:List (Nat×Nat)} (h:Apart (x::l)):x.1<=x.2:=by
 cases l with
 |nil=>exact h
 |cons y l=>exact h.1
theorem Apart.lt {x:Nat×Nat}:∀{l:List (Nat×Nat)},Apart (x::l)->∀y∈l,x.2+1<y.1
 |[],_,y,hy=>by cases hy
 |z::l,h,y,hy=>by
  rcases (Sg).mp hy with rfl|hy
  .exact h.2.1
  .have:=Apart.lt h.2.2 y hy;have:=h.2.2.head;have:=h.2.1;omega
theorem Apart.le {l:List (Nat×Nat)} (h:Apart l):∀y∈l,y.1<=y.2:=by
 induction l with
 |nil=>intro y hy;cases hy
 |cons x l ih=>
  intro y hy;rcases (Sg).mp hy with rfl|hy
  .exact h.head
  .exact ih h.tail y hy
theorem Apart.mk {x:Nat×Nat} {l:List (Nat×Nat)} (h1:x.1<=x.2) (h2:∀y∈l,x.2+1<y.1) (h3:Apart l):Apart (x::l):=by
 cases l with
 |nil=>exact h1
 |cons y l=>exact #[h1,h2 y Sk,h3]
noncomputable def fX (a b:Nat) (x:Nat×Nat):Bool:=decide (x.2+1<a)||decide (b+1<x.1)
noncomputable def bG (a b:Nat):List (Nat×Nat)->Nat×Nat->Nat×Nat
 |[],p=>p
 |x::l,p=>bG a b l (if fX a b x=true then p else (min p.1 x.1,max p.2 x.2))
theorem iz (a b:Nat):∀(l:List (Nat×Nat)) (p:Nat×Nat),(∀x∈l,fX a b x=true)->bG a b l p=p
 |[],p,_=>rfl
 |x::l,p,h=>by unfold bG;rw [if_pos (h x Sk)];exact iz a b l p λy hy=>h y (Sh _ hy)
theorem n6 (a b:Nat) (hab:a<=b):∀(l:List (Nat×Nat)) (a' b':Nat),Apart l->a'<=a->b<=b'->(∀x∈l,a'<a->a<=x.1)->(∀x∈l,b<b'->b'+1<x.1)->
 stopped a' b' l=l.filter (λx=>decide (x.2+1<a))++[bG a b l (a',b')]++l.filter (λx=>decide (b+1<x.1))
 |[],a',b',_,_,_,_,_=>rfl
 |x::l,a',b',hA,h1,h2,h3,h4=>by
  have hx:=hA.head;have ht:=hA.tail;have hlt:=hA.lt;have hle:=ht.le;unfold stopped;by_cases c1:x.2+1<a
  .have ea:a'=a:=by refine S7 λz=>?_;have:=h3 x Sk (by omega);omega
   subst ea;rw [if_pos c1,TW (by simpa using c1),Tf (by simp;omega)];have hasd:fX a' b x=true:=by unfold fX;simp [c1]
   rw [n6 a' b hab l a' b' ht (Sf _) h2 (λy hy=>by omega) (λy hy=>h4 y (Sh _ hy))]
   conv=>rhs;unfold bG
   rw [if_pos hasd];rfl
  .rw [if_neg (by omega)];by_cases c2:b+1<x.1
   .have c2':b'+1<x.1:=by
     by_cases z:b<b'
     .exact h4 x Sk z
     .omega
    rw [if_pos c2'];have hall:∀y∈x::l,b+1<y.1:=λy hy=>by
     rcases (Sg).mp hy with rfl|hy
     .exact c2
     .have:=hlt y hy;omega
    have f1:(x::l).filter (λx=>decide (x.2+1<a))=[]:=by rw [List.filter_eq_nil_iff];intro y hy;have:=hall y hy;have:=hA.le y hy;simp;omega
    have f2:(x::l).filter (λx=>decide (b+1<x.1))=x::l:=by rw [List.filter_eq_self];intro y hy;simpa using hall y hy
    rw [f1,f2,iz a b (x::l) (a',b') λy hy=>by unfold fX;simp [hall y hy]];rfl
   .rw [if_neg (by
     intro z;by_cases z2:b<b'
     .have:=h4 x Sk z2;omega
     .omega)]
    have hasd:fX a b x=false:=by unfold fX;simp [c1,c2]
    rw [Tf (by simpa using c1),Tf (by simpa using c2)];rw [n6 a b hab l (min a' x.1) (max b' x.2) ht (by omega) (by omega) (λy hy _=>by have:=hlt y hy;omega) (λy hy z=>by
     have:=hlt y hy;by_cases z2:b<b'
     .have:=h4 y (Sh _ hy) z2;omega
     .omega)]
    conv=>rhs;unfold bG
    rw [if_neg (by rw [hasd];simp)]
theorem q0 (a b:Nat):∀(l:List (Nat×Nat)) (p:Nat×Nat),(bG a b l p).1<=p.1/\p.2<=(bG a b l p).2
 |[],p=>#[Sf _,Sf _]
 |x::l,p=>by
  unfold bG;split
  .exact q0 a b l p
  .have:=q0 a b l (min p.1 x.1,max p.2 x.2);dsimp only at this;omega
theorem ny (l:List (Nat×Nat)):∀(a b:Nat),a<=b->Apart l->Apart (stopped a b l)/\∀y∈stopped a b l,(∃x∈l,x.1<=y.1)\/a<=y.1:=by
 induction l with
 |nil=>
  intro a b h _;refine #[h,λy hy=>.inr ?_];have:y=(a,b):=by simpa [stopped] using hy
  rw [this];exact Sf _
 |cons x l ih=>
  intro a b hab hA;unfold stopped;by_cases c1:x.2+1<a
  .rw [if_pos c1];obtain ⟨h1,h2⟩:=ih a b hab hA.tail;refine #[.mk hA.head (λy hy=>?_) h1,λy hy=>?_]
   .rcases h2 y hy with ⟨z,hz,e⟩|e
    .have:=hA.lt z hz;omega
    .omega
   .rcases (Sg).mp hy with rfl|hy
    .exact .inl #[_,Sk,Sf _]
    .rcases h2 y hy with ⟨z,hz,e⟩|e
     .exact .inl #[z,Sh _ hz,e]
     .exact .inr e
  .rw [if_neg c1];by_cases c2:b+1<x.1
   .rw [if_pos c2];refine #[.mk hab (λy hy=>?_) hA,λy hy=>?_]
    .rcases (Sg).mp hy with rfl|hy
     .exact c2
     .have:=hA.lt y hy;have:=hA.head;show b+1<y.1;omega
    .rcases (Sg).mp hy with rfl|hy
     .exact .inr (Sf _)
     .exact .inl #[y,hy,Sf _]
   .rw [if_neg c2];have hx:=hA.head;obtain ⟨h1,h2⟩:=ih (min a x.1) (max b x.2) (by omega) hA.tail;refine #[h1,λy hy=>?_];rcases h2 y hy with ⟨z,hz,e⟩|e
    .exact .inl #[z,Sh _ hz,e]
    .by_cases q:a<=x.1
     .exact .inr (by omega)
     .exact .inl #[x,Sk,by omega]
theorem wT (a b:Nat) (x:Nat×Nat) (l:List (Nat×Nat)):gone a b (x::l)=((if x.1<a then [(x.1,min x.2 (a - 1))] else [])++(if b<x.2 then [(max x.1 (b+1),x.2)] else []))++gone a b l:=rfl
theorem Ji (a b:Nat) (l:List (Nat×Nat)):∀y∈gone a b l,∃x∈l,x.1<=y.1:=by
 intro y hy;unfold gone at hy;rw [List.mem_flatMap] at hy;obtain ⟨x,hx,h⟩:=hy;refine #[x,hx,?_];rw [SU] at h;rcases h with h|h
 .split at h
  .have:y=(x.1,min x.2 (a - 1)):=by simpa using h
   rw [this];exact Sf _
  .cases h
 .split at h
  .have:y=(max x.1 (b+1),x.2):=by simpa using h
   rw [this];exact Nat.le_max_left _ _
  .cases h
theorem t6 (a b:Nat) (hab:a<=b):∀(l:List (Nat×Nat)),Apart l->Apart (gone a b l)
 |[],_=>trivial
 |x::l,h=>by
  have ih:=t6 a b hab l h.tail;have hx:=h.head;have hg:∀y∈gone a b l,x.2+1<y.1:=λy hy=>by obtain ⟨z,hz,e⟩:=Ji a b l y hy;have:=h.lt z hz;omega
  rw [wT];by_cases c1:x.1<a
  .rw [if_pos c1];by_cases c2:b<x.2
   .rw [if_pos c2];refine .mk (by show x.1<=min x.2 (a - 1);omega) (λy hy=>?_) (.mk (by show max x.1 (b+1)<=x.2;omega) (λy hy=>hg y hy) ih);show min x.2 (a - 1)+1<y.1;rcases (Sg).mp hy with rfl|hy
    .show _<max x.1 (b+1);omega
    .have:=hg y hy;omega
   .rw [if_neg c2];refine .mk (by show x.1<=min x.2 (a - 1);omega) (λy hy=>?_) ih;have:=hg y hy;show min x.2 (a - 1)+1<y.1;omega
  .rw [if_neg c1];by_cases c2:b<x.2
   .rw [if_pos c2];exact .mk (by show max x.1 (b+1)<=x.2;omega) (λy hy=>hg y hy) ih
   .rw [if_neg c2];exact ih
def Ka (B:Nat) (l:List (Nat×Nat)):Prop:=∀y∈l,y.2<=B
theorem n8 {B:Nat}:∀(l:List (Nat×Nat)) (a b:Nat),b<=B->Ka B l->Ka B (stopped a b l)
 |[],a,b,h,_=>λy hy=>by
  have:y=(a,b):=by simpa [stopped] using hy
  rw [this];exact h
 |x::l,a,b,h,hl=>by
  have h0:=hl x Sk;have ht:Ka B l:=λy hy=>hl y (Sh _ hy);unfold stopped;split
  .intro y hy;rcases (Sg).mp hy with rfl|hy
   .exact h0
   .exact n8 l a b h ht y hy
  .split
   .intro y hy;rcases (Sg).mp hy with rfl|hy
    .exact h
    .exact hl y hy
   .exact n8 l _ _ (by omega) ht
theorem Jj {B:Nat} (a b:Nat) (l:List (Nat×Nat)) (hl:Ka B l):Ka B (gone a b l):=by
 intro y hy;unfold gone at hy;rw [List.mem_flatMap] at hy;obtain ⟨x,hx,h⟩:=hy;have:=hl x hx;rw [SU] at h;rcases h with h|h
 .split at h
  .have e:y=(x.1,min x.2 (a - 1)):=by simpa using h
   rw [e];show min x.2 (a - 1)<=B;omega
  .cases h
 .split at h
  .have e:y=(max x.1 (b+1),x.2):=by simpa using h
   rw [e];exact this
  .cases h
theorem CO (l:List (Nat×Nat)) (x:Nat×Nat) (a b:Nat):still (l++[x]) a b=still l a b+(min x.2 b+1 - max x.1 a):=by unfold still;rw [Sw,List.foldl_append];rfl
noncomputable def gf (s x:Nat) (r:Nat×Nat):Nat:=let a:=max r.1 (s+1);if a<=r.2/\a<=x then x+(r.2+1 - a) else x
theorem G1 (l:List (Nat×Nat)) (s e:Nat):going l s e=if e<=s then e else l.foldl (gf s) e:=rfl
theorem EV (s x:Nat) (r:Nat×Nat):x<=gf s x r:=by unfold gf;dsimp only;split<;>omega
theorem AG (s x:Nat) (r:Nat×Nat) (hs:s<x) (hr:r.1<=r.2):((gf s x r:Nat):Int)=if (r.1:Int)<=x then (x:Int)+max 0 ((r.2:Int)- max ((r.1:Int)- 1) s) else x:=by
 unfold gf;dsimp only;by_cases c1:(r.1:Int)<=x
 .rw [if_pos c1];split<;>omega
 .rw [if_neg c1,if_neg (by omega)]
theorem jl (a b:Nat) (x:Nat×Nat):∀(l:List (Nat×Nat)) (p:Nat×Nat),bG a b (l++[x]) p=if fX a b x=true then bG a b l p else (min (bG a b l p).1 x.1,max (bG a b l p).2 x.2)
 |[],p=>rfl
 |y::l,p=>jl a b x l _
theorem t7 {α:Type} (p q:α->Bool):∀(l:List α),(∀x∈l,p x=true->q x=false)->(l.filter λx=>p x||q x).Perm (l.filter p++l.filter q)
 |[],_=>.nil
 |x::l,h=>by
  have ih:=t7 p q l λy hy=>h y (Sh _ hy);cases e1:p x with
  |true=>have e2:=h x Sk e1;rw [TW (by rw [e1];rfl),TW e1,Tf (by rw [e2];simp)];exact .cons _ ih
  |false=>
   cases e2:q x with
   |true=>rw [TW (by rw [e1,e2];rfl),Tf (by rw [e1];simp),TW e2];exact (List.Perm.cons _ ih).trans List.perm_middle.symm
   |false=>rw [Tf (by rw [e1,e2];simp),Tf (by rw [e1];simp),Tf (by rw [e2];simp)];exact ih
def lexLe (x y:Nat×Nat):Prop:=x.1<y.1\/(x.1=y.1/\x.2<=y.2)
theorem t8:∀{l m:List (Nat×Nat)},l.Perm m->l.Pairwise lexLe->m.Pairwise lexLe->l=m
 |[],m,h,_,_=>(List.nil_perm.mp h).symm
 |x::l,m,h,h1,h2=>by
  cases m with
  |nil=>exact absurd h.length_eq (by simp)
  |cons y m=>
   obtain ⟨a1,a2⟩:=(T_).mp h1;obtain ⟨b1,b2⟩:=(T_).mp h2;have e:x=y:=by
    have m1:x∈y::m:=h.mem_iff.mp Sk;have m2:y∈x::l:=h.mem_iff.mpr Sk;rcases (Sg).mp m1 with e|m1
    .exact e
    .rcases (Sg).mp m2 with e|m2
     .exact e.symm
     .have c1:=b1 x m1;have c2:=a1 y m2;unfold lexLe at c1 c2;exact Prod.ext (by omega) (by omega)
   subst e;rw [t8 ((List.perm_cons _).mp h) a2 b2]
theorem Apart.sorted:∀{l:List (Nat×Nat)},Apart l->l.Pairwise lexLe
 |[],_=>.nil
 |x::l,h=>(T_).mpr #[λy hy=>by have:=h.lt y hy;have:=h.head;exact .inl (by omega),h.tail.sorted]
theorem t9 {a b:Nat} (hab:a<=b) {l m:List (Nat×Nat)} (hA:Apart l) (hp:m.Perm (l.filter (fX a b)++[bG a b l (a,b)])) (hs:m.Pairwise lexLe):m=stopped a b l:=by
 refine t8 ?_ hs (ny l a b hab hA).1.sorted;rw [n6 a b hab l a b hA (Sf _) (Sf _) (λ_ _ h=>absurd h (Tr _)) (λ_ _ h=>absurd h (Tr _))];refine hp.trans ?_;have h:=t7 (λx:Nat×Nat=>decide (x.2+1<a)) (λx=>decide (b+1<x.1)) l λx hx h1=>by have:=hA.le x hx;have h1:x.2+1<a:=of_decide_eq_true h1;exact decide_eq_false (by omega)
 refine (List.Perm.append_right _ h).trans ?_;rw [Tq,Tq];exact List.Perm.append_left _ List.perm_append_comm
end OLm
end
section
namespace OLm
open VbptaaCore Vbptaa
theorem nB {α:Type} {l:List α} {x:α} (h:l.getLast? =some x):l.dropLast++[x]=l:=by
 have hne:l≠[]:=λe=>by rw [e] at h;cases h
 rw [List.getLast?_eq_some_getLast hne] at h;rw [<-Sd h];exact List.dropLast_concat_getLast hne
theorem qw (c:Nat):∀t:SV,cut c t≠[]
 |[]=>by simp [cut]
 |x::l=>by
  unfold cut;split
  .simp
  .split<;>simp
theorem fo (c:Nat):∀t:SV,joined c (cut c t)=t
 |[]=>rfl
 |x::l=>by
  have ih:=fo c l;unfold cut;cases e:cut c l with
  |nil=>exact absurd e (qw c l)
  |cons p r=>
   rw [e] at ih;dsimp only;by_cases h:x=c
   .rw [if_pos h];show []++(c::joined c (p::r))=x::l;rw [ih,h];rfl
   .rw [if_neg h];cases r with
    |nil=>have:p=l:=ih;show x::p=x::l;rw [this]
    |cons q r=>have:p++(c::joined c (q::r))=l:=ih;show (x::p)++(c::joined c (q::r))=x::l;rw [<-this];rfl
theorem AH (c:Nat):∀t:SV,c∉t->cut c t=[t]
 |[],_=>rfl
 |x::l,h=>by have hx:x≠c:=λe=>h (by rw [e];exact Sk);have hl:c∉l:=λe=>h (Sh _ e);unfold cut;rw [AH c l hl];dsimp only;rw [if_neg hx]
theorem o8 (c:Nat):∀(p t:SV),c∉p->cut c (p++c::t)=p::cut c t
 |[],t,_=>by
  show cut c (c::t)=[]::cut c t
  conv=>lhs;unfold cut
  cases e:cut c t with
  |nil=>exact absurd e (qw c t)
  |cons q r=>dsimp only;rw [if_pos rfl]
 |x::p,t,h=>by
  have hx:x≠c:=λe=>h (by rw [e];exact Sk);have hl:c∉p:=λe=>h (Sh _ e);show cut c (x::(p++c::t))=(x::p)::cut c t
  conv=>lhs;unfold cut
  rw [o8 c p t hl];dsimp only;rw [if_neg hx]
theorem t_ (c:Nat):∀(ps:List SV),ps≠[]->(∀p∈ps,c∉p)->cut c (joined c ps)=ps
 |[],h,_=>absurd rfl h
 |[a],_,h=>AH c a (h a Sk)
 |a::b::l,_,h=>by show cut c (a++(c::joined c (b::l)))=_;rw [o8 c a _ (h a Sk),t_ c (b::l) (by simp) λp hp=>h p (Sh _ hp)]
noncomputable def val (t:SV):Nat:=t.foldl (λa c=>10*a+(c - 48)) 0
theorem G2 (t:SV) (c:Nat):val (t++[c])=10*val t+(c - 48):=by unfold val;rw [List.foldl_append];rfl
theorem AI (t:SV):∀a,a*10^t.length<=t.foldl (λa c=>10*a+(c - 48)) a:=by
 induction t with
 |nil=>intro a;simp
 |cons c t ih=>intro a;rw [List.foldl_cons,Si,Nat.pow_succ];refine SA ?_ (ih (10*a+(c - 48)));rw [Nat.mul_comm (10^t.length) 10,<-Nat.mul_assoc,Nat.mul_comm a 10];exact Nat.mul_le_mul_right _ (Nat.le_add_right _ _)
theorem gG (c:Nat):isDigit c=true↔48<=c/\c<=57:=by unfold isDigit;simp
noncomputable def num (lo hi:Nat) (t:SV):Option Nat:=if (t≠[]/\t.all isDigit=true)/\t.head?≠some 48/\lo<=val t/\val t<=hi then some (val t) else none
theorem jO {lo hi:Nat} (h1:1<=lo) (h2:hi<100000) (t:SV):number lo hi t=num lo hi t:=by
 unfold number num;change (if _ then none else if lo<=val t/\val t<=hi then some (val t) else none)=_;by_cases c1:t=[]
 .subst c1;simp
 .by_cases c2:t.all isDigit=true
  .by_cases c3:t.head? =some 48
   .rw [if_neg (show¬((t≠[]/\t.all isDigit=true)/\t.head?≠some 48/\lo<=val t/\val t<=hi) from λz=>z.2.1 c3)];by_cases c4:t.length=1
    .obtain ⟨x,rfl⟩:∃x,t=[x]:=by
      match t,c4 with
      |[x],_=>exact #[x,rfl]
     have:x=48:=by simpa using c3
     subst this;have e:val [48]=0:=rfl;rw [e,if_neg (show¬(lo<=0/\0<=hi) from by omega)];split<;>rfl
    .rw [if_pos (.inr (.inr (.inr ⟨c3,c4⟩)))]
   .by_cases c5:5<t.length
    .rw [if_pos (.inr (.inr (.inl c5)))];have hb:100000<=val t:=by
      cases t with
      |nil=>exact absurd rfl c1
      |cons x l=>
       have hx:48<=x/\x<=57:=(gG x).mp ((Th).mp c2 x Sk);have hx2:x≠48:=λe=>c3 (by rw [e];rfl);have:=AI l (10*0+(x - 48));have e:val (x::l)=l.foldl (λa c=>10*a+(c - 48)) (10*0+(x - 48)):=rfl;rw [e];refine SA ?_ this;have hl:5<=l.length:=by rw [Si] at c5;omega
       have p:=Nat.pow_le_pow_right (show 0<10 from by decide) hl;have p2:(10:Nat)^5=100000:=by decide
       rw [p2] at p;refine SA p ?_;exact Nat.le_mul_of_pos_left _ (by omega)
     rw [if_neg (by omega)]
    .rw [if_neg (by
      rintro (z|z|z|z)
      .simp at z;exact c1 z
      .rw [c2] at z;cases z
      .exact c5 z
      .exact c3 z.1)]
     by_cases c6:lo<=val t/\val t<=hi
     .rw [if_pos c6,if_pos #[#[c1,c2],c3,c6]]
     .rw [if_neg c6,if_neg (λz=>c6 z.2.2)]
  .rw [if_pos (.inr (.inl (by simpa using c2))),if_neg (λz=>c2 z.1.2)]
theorem digits_eq (n:Nat):digits n=(Nat.toDigits 10 n).map Char.toNat:=by unfold digits ascii;show (Nat.repr n).toList.map _=_;rw [Nat.toList_repr]
theorem yr:∀d:Nat,d<10->(Nat.digitChar d).toNat=48+d:=by decide
theorem qx {n:Nat} (h:n<10):digits n=[48+n]:=by rw [digits_eq,Nat.toDigits_of_lt_base h];show [(Nat.digitChar n).toNat]=_;rw [yr n h]
theorem q_ {n d:Nat} (h:0<n) (hd:d<10):digits (10*n+d)=digits n++[48+d]:=by rw [digits_eq,<-Nat.toDigits_append_toDigits (by decide) h hd,Sw,<-digits_eq,<-digits_eq,qx hd]
theorem Jk (x:Nat) (l:SV) (hx:49<=x):0<val (x::l):=by have:=AI l (10*0+(x - 48));have e:val (x::l)=l.foldl (λa c=>10*a+(c - 48)) (10*0+(x - 48)):=rfl;rw [e];have p:0<10^l.length:=Nat.pow_pos (by decide);have:0<(10*0+(x - 48))*10^l.length:=Nat.mul_pos (by omega) p;omega
theorem lM:∀(k:Nat) (t:SV),t.length=k->t≠[]->t.all isDigit=true->t.head?≠some 48->digits (val t)=t
 |0,t,hk,h1,_,_=>absurd ((US).mp hk) h1
 |k+1,t,hk,h1,h2,h3=>by
  obtain ⟨s,c,rfl⟩:∃s c,t=s++[c]:=#[t.dropLast,t.getLast h1,(List.dropLast_concat_getLast h1).symm];rw [List.all_append,S9] at h2;have hc:48<=c/\c<=57:=(gG c).mp (by simpa using h2.2);rw [G2];cases s with
  |nil=>show digits (10*0+(c - 48))=[c];rw [show 10*0+(c - 48)=c - 48 from by omega,qx (by omega)];rw [show 48+(c - 48)=c from by omega]
  |cons x l=>have hx:48<=x/\x<=57:=(gG x).mp ((Th).mp h2.1 x Sk);have hx2:x≠48:=λe=>h3 (by rw [e];rfl);rw [q_ (Jk x l (by omega)) (by omega),lM k (x::l) (by simp at hk ⊢;omega) (by simp) h2.1 (by simpa using hx2),show 48+(c - 48)=c from by omega]
theorem CP (h1:t≠[]) (h2:t.all isDigit=true) (h3:t.head?≠some 48):digits (val t)=t:=lM t.length t rfl h1 h2 h3
theorem n9 {lo hi n:Nat} (h:num lo hi t=some n):digits n=t/\lo<=n/\n<=hi:=by
 unfold num at h;split at h
 .rename_i c;cases h;exact #[CP c.1.1 c.1.2 c.2.1,c.2.2.1,c.2.2.2]
 .cases h
theorem bj {lo hi n:Nat} (h1:1<=lo) (h2:hi<100000) (h:number lo hi t=some n):digits n=t/\lo<=n/\n<=hi:=by rw [jO h1 h2] at h;exact n9 h
theorem ff {w:Nat} (h:weekdayOf t=some w):WEEKDAYS.getD w []=t/\w<7:=by
 unfold weekdayOf at h;split at h
 .rename_i c;cases h;have hm:t∈WEEKDAYS:=by simpa using c
  have hl:WEEKDAYS.idxOf t<WEEKDAYS.length:=List.idxOf_lt_length_of_mem hm;refine #[?_,hl];rw [List.getD_eq_getElem?_getD,Ss hl];simp
 .cases h
theorem G3 (m d:Nat):slashed [m,d]=digits m++(47::digits d):=rfl
theorem G4 (y m d:Nat):slashed [y,m,d]=digits y++(47::(digits m++(47::digits d))):=rfl
theorem eK (y m:Nat):monthDays y m<100000:=by have:=yp y m;omega
theorem lN {x:Nat×Nat} (h:monthDay t=some x):slashed [x.1,x.2]=t/\1<=x.1/\x.1<=12/\1<=x.2/\x.2<=monthDays 2000 x.1:=by
 unfold monthDay at h;split at h
 .rename_i a b e;have j:=fo 47 t;have e':cut 47 t=[a,b]:=e;rw [e'] at j;cases e1:number 1 12 a with
  |none=>rw [e1] at h;cases h
  |some m=>
   rw [e1] at h;dsimp only at h;cases e2:number 1 (monthDays 2000 m) b with
   |none=>rw [e2] at h;cases h
   |some d=>rw [e2] at h;cases h;obtain ⟨a1,a2,a3⟩:=bj (by decide) (by decide) e1;obtain ⟨b1,b2,b3⟩:=bj (by decide) (eK _ _) e2;refine #[?_,a2,a3,b2,b3];rw [G3,a1,b1];exact j
 .cases h
theorem lO (h:fullDate t=some x):slashed [x.y,x.m,x.d]=t/\2000<=x.y/\x.y<=2399/\1<=x.m/\x.m<=12/\1<=x.d/\x.d<=monthDays x.y x.m:=by
 unfold fullDate at h;split at h
 .rename_i a b c e;have j:=fo 47 t;have e':cut 47 t=[a,b,c]:=e;rw [e'] at j;cases e1:number FIRST 2399 a with
  |none=>rw [e1] at h;cases h
  |some y=>
   rw [e1] at h;cases e2:number 1 12 b with
   |none=>rw [e2] at h;cases h
   |some m=>
    rw [e2] at h;dsimp only at h;cases e3:number 1 (monthDays y m) c with
    |none=>rw [e3] at h;cases h
    |some d=>rw [e3] at h;cases h;obtain ⟨a1,a2,a3⟩:=bj (by decide) (by decide) e1;obtain ⟨b1,b2,b3⟩:=bj (by decide) (by decide) e2;obtain ⟨c1,c2,c3⟩:=bj (by decide) (eK _ _) e3;refine #[?_,a2,a3,b2,b3,c2,c3];rw [G4,a1,b1,c1];exact j
 .cases h
theorem CQ {r:Nat×Nat} (h:span t=some r):digits r.1++(45::digits r.2)=t/\2000<=r.1/\r.1<=r.2/\r.2<=2399:=by
 unfold span at h;split at h
 .rename_i a b e;have j:=fo 45 t;rw [e] at j;cases e1:number FIRST 2399 a with
  |none=>rw [e1] at h;cases h
  |some y=>
   rw [e1] at h;dsimp only at h;obtain ⟨a1,a2,a3⟩:=bj (by decide) (by decide) e1;cases e2:number y 2399 b with
   |none=>rw [e2] at h;cases h
   |some z=>rw [e2] at h;cases h;obtain ⟨b1,b2,b3⟩:=bj (SA (by decide) a2) (by decide) e2;refine #[?_,a2,b2,b3];show digits y++(45::digits z)=t;rw [a1,b1];exact j
 .cases h
theorem yt {off:Int} (h:moonOf t=some off):EASTER++(if off=0 then [] else (if 0<off then [43] else [45])++digits off.natAbs)=t/\ -80<=off/\off<=80:=by
 unfold moonOf at h;split at h
 .cases h
 .rename_i c;have c':t.take 6=EASTER:=by simpa using c
  have j:EASTER++t.drop 6=t:=by rw [<-c'];exact Uc 6 t
  split at h
  .rename_i e;cases h;rw [e] at j;exact #[j,by decide,by decide]
  .rename_i r e;cases e1:number 1 80 r with
   |none=>rw [e1] at h;cases h
   |some n=>rw [e1] at h;have h':((n:Nat):Int)=off:=Sd h;subst h';obtain ⟨a1,a2,a3⟩:=bj (by decide) (by decide) e1;refine #[?_,by omega,by omega];rw [if_neg (by omega),if_pos (by omega)];rw [show ((n:Int)).natAbs=n from by omega,a1];rw [e] at j;exact j
  .rename_i r e;cases e1:number 1 80 r with
   |none=>rw [e1] at h;cases h
   |some n=>rw [e1] at h;have h':-((n:Nat):Int)=off:=Sd h;subst h';obtain ⟨a1,a2,a3⟩:=bj (by decide) (by decide) e1;refine #[?_,by omega,by omega];rw [if_neg (by omega),if_neg (by omega)];rw [show (-(n:Int)).natAbs=n from by omega,a1];rw [e] at j;exact j
  .cases h
noncomputable def G5:When->Prop
 | .fixed m d=>1<=m/\m<=12/\1<=d/\d<=monthDays 2000 m
 | .moon off=>-80<=off/\off<=80
 | .nth k w m=>k<=5/\w<7/\1<=m/\m<=12
 | .from_ w m d=>w<7/\1<=m/\m<=12/\1<=d/\d<=monthDays 2000 m
theorem o9 (h:whenOf l=some x):wordsOf x=l/\G5 x:=by
 unfold whenOf at h;split at h
 .rename_i a;cases e:monthDay a with
  |some y=>rw [e] at h;cases h;obtain ⟨a1,a2⟩:=lN e;refine #[?_,a2];show [slashed [y.1,y.2]]=[a];rw [a1]
  |none=>
   rw [e] at h;dsimp only at h;cases e2:moonOf a with
   |none=>rw [e2] at h;cases h
   |some off=>rw [e2] at h;cases h;obtain ⟨a1,a2⟩:=yt e2;refine #[?_,a2];show [_]=[a];rw [a1]
 .rename_i a b c;split at h
  .rename_i hb;cases e1:weekdayOf a with
   |none=>rw [e1] at h;cases h
   |some w=>
    cases e2:monthDay c with
    |none=>rw [e1,e2] at h;cases h
    |some y=>rw [e1,e2] at h;cases h;obtain ⟨a1,a2⟩:=ff e1;obtain ⟨b1,b2⟩:=lN e2;refine #[?_,a2,b2];show [WEEKDAYS.getD w [],ascii "from",slashed [y.1,y.2]]=[a,b,c];rw [a1,b1,hb]
  .rename_i hb;cases e1:(if a=ascii "last" then some 0 else number 1 5 a) with
   |none=>rw [e1] at h;cases h
   |some k=>
    cases e2:weekdayOf b with
    |none=>rw [e1,e2] at h;cases h
    |some w=>
     cases e3:number 1 12 c with
     |none=>rw [e1,e2,e3] at h;cases h
     |some m=>
      rw [e1,e2,e3] at h;cases h;obtain ⟨b1,b2⟩:=ff e2;obtain ⟨c1,c2,c3⟩:=bj (by decide) (by decide) e3;show [if k=0 then ascii "last" else digits k,WEEKDAYS.getD w [],digits m]=[a,b,c]/\_;by_cases ha:a=ascii "last"
      .rw [if_pos ha] at e1;cases e1;rw [if_pos rfl,b1,c1,ha];exact #[rfl,by decide,b2,c2,c3]
      .rw [if_neg ha] at e1;obtain ⟨a1,a2,a3⟩:=bj (by decide) (by decide) e1;rw [if_neg (by omega),b1,c1,a1];exact #[rfl,a3,b2,c2,c3]
 .cases h
noncomputable def ku:Said->Prop
 | .rest w=>w<7
 | .feast f=>G5 f.at_/\∀r,f.years=some r->2000<=r.1/\r.1<=r.2/\r.2<=2399
 | .shut x=>2000<=x.y/\x.y<=2399/\1<=x.m/\x.m<=12/\1<=x.d/\x.d<=monthDays x.y x.m
 | .open_ x=>2000<=x.y/\x.y<=2399/\1<=x.m/\x.m<=12/\1<=x.d/\x.d<=monthDays x.y x.m
noncomputable def n_ (f:Feast):List SV:=wordsOf f.at_++(match f.years with
    |none=>[]
    |some r=>[digits r.1++(45::digits r.2)])
theorem nE {b:Bool} (h:feastOf b l=some s):∃f,s= .feast f/\f.moves=b/\n_ f=l/\ku s:=by
 unfold feastOf at h;cases e:whenOf l with
 |some x=>rw [e] at h;cases h;obtain ⟨a1,a2⟩:=o9 e;refine #[_,rfl,rfl,?_,a2,λr hr=>nomatch hr];show wordsOf x++[]=l;rw [a1,Td]
 |none=>
  rw [e] at h;dsimp only at h;cases e1:l.getLast? with
  |none=>rw [e1] at h;cases h
  |some t=>
   rw [e1] at h;dsimp only at h;cases e2:span t with
   |none=>rw [e2] at h;cases h
   |some r=>
    cases e3:whenOf l.dropLast with
    |none=>rw [e2,e3] at h;cases h
    |some x=>
     rw [e2,e3] at h;cases h;obtain ⟨a1,a2⟩:=o9 e3;obtain ⟨b1,b2⟩:=CQ e2;refine #[_,rfl,rfl,?_,a2,λr' hr=>?_]
     .show wordsOf x++[digits r.1++(45::digits r.2)]=l;rw [a1,b1];exact nB e1
     .have:r=r':=Sd hr;subst this;exact b2
theorem yu (h:saidOf t=some s):shownSaid s=t/\ku s:=by
 unfold saidOf at h;have j:=fo 32 t;cases e:cut 32 t with
 |nil=>exact absurd e (qw 32 t)
 |cons a l=>
  rw [e] at h j;dsimp only at h;by_cases c1:a=ascii "rest"
  .rw [if_pos c1] at h;split at h
   .rename_i w;cases e1:weekdayOf w with
    |none=>rw [e1] at h;cases h
    |some i=>rw [e1] at h;cases h;obtain ⟨a1,a2⟩:=ff e1;refine #[?_,a2];show joined 32 [ascii "rest",WEEKDAYS.getD i []]=t;rw [a1,<-c1];exact j
   .cases h
  .rw [if_neg c1] at h;by_cases c2:a=ascii "feast"
   .rw [if_pos c2] at h;obtain ⟨f,rfl,hm,hw,ok⟩:=nE h;refine #[?_,ok];show joined 32 ((if f.moves=true then [ascii "moved"] else [])++(ascii "feast" ::n_ f))=t;rw [hm,if_neg (by decide),hw,<-c2];exact j
   .rw [if_neg c2] at h;by_cases c3:a=ascii "moved"
    .rw [if_pos c3] at h;split at h
     .rename_i b r;split at h
      .rename_i hb;obtain ⟨f,rfl,hm,hw,ok⟩:=nE h;refine #[?_,ok];show joined 32 ((if f.moves=true then [ascii "moved"] else [])++(ascii "feast" ::n_ f))=t;rw [hm,if_pos rfl,hw,<-c3,<-hb];exact j
      .cases h
     .cases h
    .rw [if_neg c3] at h;by_cases c4:a=ascii "shut"
     .rw [if_pos c4] at h;split at h
      .rename_i w;cases e1:fullDate w with
       |none=>rw [e1] at h;cases h
       |some x=>rw [e1] at h;cases h;obtain ⟨a1,a2⟩:=lO e1;refine #[?_,a2];show joined 32 [ascii "shut",slashed [x.y,x.m,x.d]]=t;rw [a1,<-c4];exact j
      .cases h
     .rw [if_neg c4] at h;by_cases c5:a=ascii "open"
      .rw [if_pos c5] at h;split at h
       .rename_i w;cases e1:fullDate w with
        |none=>rw [e1] at h;cases h
        |some x=>rw [e1] at h;cases h;obtain ⟨a1,a2⟩:=lO e1;refine #[?_,a2];show joined 32 [ascii "open",slashed [x.y,x.m,x.d]]=t;rw [a1,<-c5];exact j
       .cases h
      .rw [if_neg c5] at h;cases h
theorem shown_list:∀(ps:List SV) (c:List Said),allSome (ps.map saidOf)=some c->joined 59 (ps++[[]])=shownCalendar c/\(∀s∈c,ku s)/\c.length=ps.length
 |[],c,h=>by cases h;exact #[rfl,(λs hs=>nomatch hs),rfl]
 |p::ps,c,h=>by
  rw [S1] at h;cases e:saidOf p with
  |none=>rw [e] at h;cases h
  |some s=>
   rw [e] at h;have h':(allSome (ps.map saidOf)).map (λr=>s::r)=some c:=h;cases e2:allSome (ps.map saidOf) with
   |none=>rw [e2] at h';cases h'
   |some c'=>
    rw [e2] at h';cases h';obtain ⟨h1,h2,h3⟩:=shown_list ps c' e2;obtain ⟨g1,g2⟩:=yu e;refine #[?_,λz hz=>?_,by simp [h3]]
    .have ej:joined 59 ((p::ps)++[[]])=p++(59::joined 59 (ps++[[]])):=by
      cases ps with
      |nil=>rfl
      |cons q r=>rfl
     rw [ej,h1];show _=(shownSaid s++[59])++shownCalendar c';rw [g1,Tq];rfl
    .rcases (Sg).mp hz with rfl|hz
     .exact g2
     .exact h2 z hz
theorem jP (h:calendarOf t=some c):shownCalendar c=t/\(∀s∈c,ku s)/\jN c:=by
 unfold calendarOf at h;dsimp only at h;have j:=fo 59 t;split at h
 .cases h
 .rename_i c0;have hl:(cut 59 t).getLast? =some []:=S7 λz=>c0 (.inl z);have hn:(cut 59 t).length - 1<=20:=Nat.le_of_not_lt λz=>c0 (.inr z);cases e:allSome ((cut 59 t).dropLast.map saidOf) with
  |none=>rw [e] at h;cases h
  |some c1=>
   rw [e] at h;dsimp only at h;split at h
   .cases h
   .rename_i c2;cases h;obtain ⟨h1,h2,h3⟩:=shown_list _ _ e;have e3:(cut 59 t).dropLast++[[]]=cut 59 t:=nB hl;rw [e3,j] at h1;refine #[h1.symm,h2,?_,?_]
    .rw [h3,List.length_dropLast];exact hn
    .refine S7 λz=>c2 ?_;rw [Th];intro w hw;rw [TU] at hw;refine S7 λq=>z #[w,hw,λm=>q ?_];simpa using m
end OLm
end
section
namespace OLm
open VbptaaCore Vbptaa
theorem gg (h:begins w t=true):w++t.drop w.length=t:=by
 unfold begins at h;have:t.take w.length=w:=by simpa using h
 conv=>lhs;arg 1;rw [<-this]
 exact Uc _ _
theorem lP {c:Nat} (h:unitOf c=some u):unitText u=c:=by
 unfold unitOf at h;split at h
 .cases h;rename_i e;exact e.symm
 .split at h
  .cases h;rename_i e;exact e.symm
  .split at h
   .cases h;rename_i e;exact e.symm
   .split at h
    .cases h;rename_i e;exact e.symm
    .split at h
     .cases h;rename_i e;exact e.symm
     .cases h
theorem d9 (p:Nat->Bool) (r:SV):r.takeWhile p++r.drop (r.takeWhile p).length=r:=by
 induction r with
 |nil=>rfl
 |cons x l ih=>
  rw [List.takeWhile_cons];split
  .show x::(l.takeWhile p++l.drop (l.takeWhile p).length)=x::l;rw [ih]
  .rfl
noncomputable def d_ (r:SV):Option (Nat×Unit_×SV):=
 match r.drop (r.takeWhile isDigit).length with
 |c::q=>(match unitOf c,number 1 400 (r.takeWhile isDigit) with
  |some u,some n=>if u= .open_/\20<n then none else some (n,u,q)
  |_,_=>none)
 |[]=>none
theorem ky (f:Nat) (e:Limit) (r:SV):tails (f+1) e (43::r)=match d_ r with
 |some (n,u,q)=>tails f (.plus e n u) q
 |none=>none:=by
 have h43:tails (f+1) e (43::r)=(match r.drop (r.takeWhile isDigit).length with
  |c::q=>(match unitOf c,number 1 400 (r.takeWhile isDigit) with
   |some u,some n=>if u= .open_/\20<n then none else tails f (.plus e n u) q
   |_,_=>none)
  |[]=>none):=rfl
 rw [h43];unfold d_;cases r.drop (r.takeWhile isDigit).length with
 |nil=>rfl
 |cons c q=>
  dsimp only;cases unitOf c with
  |none=>rfl
  |some u=>
   cases number 1 400 (r.takeWhile isDigit) with
   |none=>rfl
   |some n=>
    dsimp only;by_cases h:u=Unit_.open_/\20<n
    .rw [if_pos h,if_pos h]
    .rw [if_neg h,if_neg h]
theorem gh (f:Nat) (e:Limit) (t:SV) (h:∀r,t≠43::r):tails f e t=some (e,t):=by
 cases f with
 |zero=>rfl
 |succ f=>
  unfold tails;split
  .rename_i r;exact absurd rfl (h r)
  .rfl
theorem kz {n:Nat} (h:d_ r=some (n,u,q)):q.length<r.length/\r=r.takeWhile isDigit++unitText u::q/\number 1 400 (r.takeWhile isDigit)=some n/\1<=n/\n<=400/\(u= .open_->n<=20):=by
 unfold d_ at h;have j:=d9 isDigit r;cases e:r.drop (r.takeWhile isDigit).length with
 |nil=>rw [e] at h;cases h
 |cons c q'=>
  rw [e] at h j;dsimp only at h;cases e1:unitOf c with
  |none=>rw [e1] at h;cases h
  |some u'=>
   cases e2:number 1 400 (r.takeWhile isDigit) with
   |none=>rw [e1,e2] at h;cases h
   |some n'=>
    rw [e1,e2] at h;dsimp only at h;split at h
    .cases h
    .rename_i hn;cases h;rw [<-lP e1] at j;obtain ⟨_,a2,a3⟩:=bj (by decide) (by decide) e2;refine #[?_,j.symm,rfl,a2,a3,λhu=>Nat.le_of_not_lt λz=>hn #[hu,z]];have:=congrArg T7 j;rw [Sq,Si] at this;omega
theorem AJ (t:SV):(∃r,t=43::r)\/∀r,t≠43::r:=by
 cases t with
 |nil=>exact .inr λr=>by simp
 |cons x l=>
  by_cases h:x=43
  .exact .inl #[l,by rw [h]]
  .exact .inr λr z=>h (List.cons.inj z).1
theorem oa:∀(k:Nat) (t:SV),t.length<=k->∀(f g:Nat) (e:Limit),t.length<=f->t.length<=g->tails f e t=tails g e t
 |0,t,hk,f,g,e,_,_=>by have:t=[]:=(US).mp (by omega);subst this;rw [gh f e [] (by simp),gh g e [] (by simp)]
 |k+1,t,hk,f,g,e,hf,hg=>by
  rcases AJ t with ⟨r,rfl⟩|h
  .rw [Si] at hk hf hg;obtain ⟨f',rfl⟩:∃f',f=f'+1:=#[f - 1,by omega];obtain ⟨g',rfl⟩:∃g',g=g'+1:=#[g - 1,by omega];rw [ky,ky];cases ea:d_ r with
   |none=>rfl
   |some x=>obtain ⟨n,u,q⟩:=x;have:=(kz ea).1;exact oa k q (by omega) f' g' _ (by omega) (by omega)
  .rw [gh f e t h,gh g e t h]
theorem iW:∀(f:Nat) (e:Limit) (t:SV) (e':Limit) (r:SV),tails f e t=some (e',r)->shownLimit e'++r=shownLimit e++t/\r.length<=t.length
 |0,e,t,e',r,h=>by cases h;exact #[rfl,Sf _]
 |f+1,e,t,e',r,h=>by
  rcases AJ t with ⟨s,rfl⟩|hp
  .rw [ky] at h;cases ea:d_ s with
   |none=>rw [ea] at h;cases h
   |some x=>
    obtain ⟨n,u,q⟩:=x;rw [ea] at h;obtain ⟨l1,j,hn,a2,a3,a4⟩:=kz ea;obtain ⟨b1,_,_⟩:=bj (by decide) (by decide) hn;obtain ⟨h1,h2⟩:=iW f (.plus e n u) q e' r h;refine #[?_,by rw [Si];omega];rw [h1];show (shownLimit e++(43::(digits n++[unitText u])))++q=shownLimit e++43::s;rw [b1]
    conv=>rhs;rw [j]
    simp
  .rw [gh (f+1) e t hp] at h;cases h;exact #[rfl,Sf _]
noncomputable def jm:Nat->SV->Option (Limit×Nat×SV)
 |0,_=>none
 |f+1,t=>
  if begins START t=true then (tails t.length .start (t.drop 5)).map λx=>(x.1,1,x.2)
  else match ONES.find? λx=>begins x.1 t with
  |some x=>(match jm f (t.drop x.1.length) with
   |some (e,d,41::r)=>(tails t.length (.one x.2 e) r).map λx=>(x.1,d+1,x.2)
   |_=>none)
  |none=>match TWOS.find? λx=>begins x.1 t with
   |some x=>(match jm f (t.drop x.1.length) with
    |some (a,da,44::r)=>(match jm f r with
     |some (b,db,41::q)=>(tails t.length (.two x.2 a b) q).map λx=>(x.1,max da db+1,x.2)
     |_=>none)
    |_=>none)
   |none=>none
theorem lQ:∀(f:Nat) (t:SV) (e:Limit) (r:SV),read f t=some (e,r)->∀F,f<=F->∃d,d<=f/\jm F t=some (e,d,r)
 |0,t,e,r,h,_,_=>by cases h
 |f+1,t,e,r,h,F,hF=>by
  obtain ⟨F,rfl⟩:∃F',F=F'+1:=#[F - 1,by omega];unfold Vbptaa.read at h;unfold jm;by_cases c:begins START t=true
  .rw [if_pos c] at h ⊢;rw [h];exact #[1,by omega,rfl]
  .rw [if_neg c] at h ⊢;cases e1:ONES.find? λx=>begins x.1 t with
   |some x=>
    rw [e1] at h;dsimp only at h ⊢;split at h
    .rename_i e0 r0 e2;obtain ⟨d,hd,q⟩:=lQ f _ _ _ e2 F (by omega);refine #[d+1,by omega,?_];rw [q];show (tails t.length (.one x.2 e0) r0).map _=_;rw [h];rfl
    .cases h
   |none=>
    rw [e1] at h;dsimp only at h ⊢;cases e2:TWOS.find? λx=>begins x.1 t with
    |none=>rw [e2] at h;cases h
    |some x=>
     rw [e2] at h;dsimp only at h ⊢;split at h
     .rename_i a r0 e3;obtain ⟨d,hd,q⟩:=lQ f _ _ _ e3 F (by omega);split at h
      .rename_i b r1 e4;obtain ⟨d',hd',q'⟩:=lQ f _ _ _ e4 F (by omega);refine #[max d d'+1,by omega,?_];rw [q];show (match jm F r0 with
        |some (b,db,41::q)=>(tails t.length (.two x.2 a b) q).map λ(x:Limit×SV)=>(x.1,max d db+1,x.2)
        |_=>none)=_
       rw [q'];show (tails t.length (.two x.2 a b) r1).map _=_;rw [h];rfl
      .cases h
     .cases h
theorem o_:∀(F:Nat) (t:SV) (e:Limit) (d:Nat) (r:SV),jm F t=some (e,d,r)->1<=d/\∀f,d<=f->read f t=some (e,r)
 |0,t,e,d,r,h=>by cases h
 |F+1,t,e,d,r,h=>by
  have step:1<=d/\∀f,d<=f+1->read (f+1) t=some (e,r):=by
   unfold jm at h;by_cases c:begins START t=true
   .rw [if_pos c] at h;cases e1:tails t.length .start (t.drop 5) with
    |none=>rw [e1] at h;cases h
    |some x=>rw [e1] at h;cases h;refine #[Sf _,λf _=>?_];unfold Vbptaa.read;rw [if_pos c,e1]
   .rw [if_neg c] at h;cases e1:ONES.find? λx=>begins x.1 t with
    |some x=>
     rw [e1] at h;dsimp only at h;split at h
     .rename_i e0 d0 r0 e2;obtain ⟨h1,h2⟩:=o_ F _ _ _ _ e2;cases e3:tails t.length (.one x.2 e0) r0 with
      |none=>rw [e3] at h;cases h
      |some y=>rw [e3] at h;cases h;refine #[by omega,λf hf=>?_];unfold Vbptaa.read;rw [if_neg c,e1];dsimp only;rw [h2 f (by omega)];exact e3
     .cases h
    |none=>
     rw [e1] at h;dsimp only at h;cases e2:TWOS.find? λx=>begins x.1 t with
     |none=>rw [e2] at h;cases h
     |some x=>
      rw [e2] at h;dsimp only at h;split at h
      .rename_i a da r0 e3;split at h
       .rename_i b db r1 e4;obtain ⟨h1,h2⟩:=o_ F _ _ _ _ e3;obtain ⟨h3,h4⟩:=o_ F _ _ _ _ e4;cases e5:tails t.length (.two x.2 a b) r1 with
        |none=>rw [e5] at h;cases h
        |some y=>
         rw [e5] at h;cases h;refine #[by omega,λf hf=>?_];unfold Vbptaa.read;rw [if_neg c,e1];dsimp only;rw [e2];dsimp only;rw [h2 f (by omega)];show (match Vbptaa.read f r0 with
          |some (b,41::q)=>tails t.length (.two x.2 a b) q
          |_=>none)=_
         rw [h4 f (by omega)];exact e5
       .cases h
      .cases h
  refine #[step.1,λf hf=>?_];obtain ⟨f',rfl⟩:∃f',f=f'+1:=#[f - 1,by have:=step.1;omega];exact step.2 f' hf
theorem re (F:Nat) (hF:12<=F) (t:SV):limitOf t=match jm F t with
 |some (e,d,[])=>if d<=12 then some e else none
 |_=>none:=by
 unfold limitOf;cases h:jm F t with
 |none=>
  cases h2:read DEPTH t with
  |none=>rfl
  |some x=>obtain ⟨e,r⟩:=x;obtain ⟨d,_,q⟩:=lQ 12 t e r h2 F hF;rw [h] at q;cases q
 |some x=>
  obtain ⟨e,d,r⟩:=x;by_cases hd:d<=12
  .rw [show read DEPTH t=some (e,r) from (o_ F t e d r h).2 12 hd];cases r with
   |nil=>dsimp only;rw [if_pos hd]
   |cons x r=>rfl
  .have hn:read DEPTH t=none:=by
    cases h2:read DEPTH t with
    |none=>rfl
    |some x=>obtain ⟨e',r'⟩:=x;obtain ⟨d',hd',q⟩:=lQ 12 t e' r' h2 F hF;rw [h] at q;cases q;exact absurd hd' hd
   rw [hn];cases r with
   |nil=>dsimp only;rw [if_neg hd]
   |cons x r=>rfl
theorem CS (h:(ONES.find? λx=>begins x.1 t)=some x):oneText x.2=x.1/\begins x.1 t=true/\5<=x.1.length:=by
 have hm:=UJ h;have hb:begins x.1 t=true:=by simpa using List.find?_some h
 refine #[?_,hb,?_]
 .simp only [ONES,Sg,SI,or_false] at hm;rcases hm with rfl|rfl|rfl|rfl|rfl<;>rfl
 .simp only [ONES,Sg,SI,or_false] at hm;rcases hm with rfl|rfl|rfl|rfl|rfl<;>decide
theorem CT {x:SV×Bool} (h:(TWOS.find? λx=>begins x.1 t)=some x):ascii (if x.2 then "later(" else "earlier(")=x.1/\begins x.1 t=true/\6<=x.1.length:=by
 have hm:=UJ h;have hb:begins x.1 t=true:=by simpa using List.find?_some h
 refine #[?_,hb,?_]
 .simp only [TWOS,Sg,SI,or_false] at hm;rcases hm with rfl|rfl<;>rfl
 .simp only [TWOS,Sg,SI,or_false] at hm;rcases hm with rfl|rfl<;>decide
theorem jQ:∀(F:Nat) (t:SV) (e:Limit) (d:Nat) (r:SV),jm F t=some (e,d,r)->shownLimit e++r=t
 |0,t,e,d,r,h=>by cases h
 |F+1,t,e,d,r,h=>by
  unfold jm at h;by_cases c:begins START t=true
  .rw [if_pos c] at h;cases e1:tails t.length .start (t.drop 5) with
   |none=>rw [e1] at h;cases h
   |some x=>rw [e1] at h;cases h;rw [(iW _ _ _ x.1 x.2 e1).1];exact gg c
  .rw [if_neg c] at h;cases e1:ONES.find? λx=>begins x.1 t with
   |some x=>
    rw [e1] at h;dsimp only at h;obtain ⟨o1,o2,_⟩:=CS e1;split at h
    .rename_i e0 d0 r0 e2;have ih:=jQ F _ _ _ _ e2;cases e3:tails t.length (.one x.2 e0) r0 with
     |none=>rw [e3] at h;cases h
     |some y=>
      rw [e3] at h;cases h;rw [(iW _ _ _ y.1 y.2 e3).1];show (oneText x.2++(shownLimit e0++[41]))++r0=t;rw [o1];have e4:x.1++(shownLimit e0++[41])++r0=x.1++(shownLimit e0++41::r0):=by simp
      rw [e4,ih];exact gg o2
    .cases h
   |none=>
    rw [e1] at h;dsimp only at h;cases e2:TWOS.find? λx=>begins x.1 t with
    |none=>rw [e2] at h;cases h
    |some x=>
     rw [e2] at h;dsimp only at h;obtain ⟨o1,o2,_⟩:=CT e2;split at h
     .rename_i a da r0 e3;split at h
      .rename_i b db r1 e4;have ih:=jQ F _ _ _ _ e3;have ih2:=jQ F _ _ _ _ e4;cases e5:tails t.length (.two x.2 a b) r1 with
       |none=>rw [e5] at h;cases h
       |some y=>
        rw [e5] at h;cases h;rw [(iW _ _ _ y.1 y.2 e5).1];show (ascii (if x.2 then "later(" else "earlier(")++(shownLimit a++(44::(shownLimit b++[41]))))++r1=t;rw [o1];have e6:x.1++(shownLimit a++(44::(shownLimit b++[41])))++r1=x.1++(shownLimit a++44::(shownLimit b++41::r1)):=by simp
        rw [e6,ih2,ih];exact gg o2
      .cases h
     .cases h
theorem nF (h:limitOf t=some e):shownLimit e=t:=by
 rw [re 12 (Sf _)] at h;split at h
 .rename_i e' d' q;split at h
  .cases h;have:=jQ _ _ _ _ _ q;rw [Td] at this;exact this
  .cases h
 .cases h
inductive Step where
 |start
 |later
 |dA
 |one (f:One)
 |plus (u:Unit_) (n:Nat)
noncomputable def post:Limit->List Step
 | .start=>[.start]
 | .plus e n u=>post e++[.plus u n]
 | .one f e=>post e++[.one f]
 | .two l a b=>post a++(post b++[if l=true then .later else .dA])
noncomputable def kC (x:Land) (l:Stops) (s:Nat) (f:One) (d:Nat):Option Nat:=match f with
    | .receipt=>few (d+x.post)
    | .open_=>few (nextOpen x.calendar d)
    | .back=>lastOpen x.calendar d
    | .month=>few (monthEnd d)
    | .going=>few (going l s d)
noncomputable def iA (x:Land) (u:Unit_) (n d:Nat):Option Nat:=few (match u with
    | .day=>d+n
    | .week=>d+7*n
    | .month=>addMonths d n
    | .year=>addMonths d (12*n)
    | .open_=>kthOpen x.calendar n d)
noncomputable def fY (x:Land) (l:Stops) (s:Nat):Step->List Nat->Option (List Nat)
 | .start,st=>some (s::st)
 | .later,p::q::st=>some (max p q::st)
 | .dA,p::q::st=>some (min p q::st)
 | .one f,d::st=>(kC x l s f d).map (·::st)
 | .plus u n,d::st=>(iA x u n d).map (·::st)
 |_,_=>none
noncomputable def jR (x:Land) (l:Stops) (s:Nat):List Step->List Nat->Option (List Nat)
 |[],st=>some st
 |a::r,st=>(fY x l s a st).bind (jR x l s r)
theorem iB (x:Land) (l:Stops) (s:Nat):∀(a b:List Step) (st:List Nat),jR x l s (a++b) st=(jR x l s a st).bind (jR x l s b)
 |[],b,st=>rfl
 |a::r,b,st=>by
  show (fY x l s a st).bind (jR x l s (r++b))=((fY x l s a st).bind (jR x l s r)).bind (jR x l s b);cases fY x l s a st with
  |none=>rfl
  |some st'=>exact iB x l s r b st'
theorem wU (x:Land) (l:Stops) (s:Nat) (hs:s<=LAST):∀(e:Limit) (st:List Nat),jR x l s (post e) st=(endOf x l s e).map (·::st):=by
 intro e;induction e with
 |start=>intro st;show (some (s::st))=(few s).map _;unfold few;rw [if_pos hs];rfl
 |plus e n u ih=>
  intro st;show jR x l s (post e++[.plus u n]) st=((endOf x l s e).bind λd=>iA x u n d).map _;rw [iB,ih st];cases endOf x l s e with
  |none=>rfl
  |some d=>show (((iA x u n d).map (·::st)).bind λst=>some st)=(iA x u n d).map (·::st);cases iA x u n d<;>rfl
 |one f e ih=>
  intro st;show jR x l s (post e++[.one f]) st=((endOf x l s e).bind λd=>kC x l s f d).map _;rw [iB,ih st];cases endOf x l s e with
  |none=>rfl
  |some d=>show (((kC x l s f d).map (·::st)).bind λst=>some st)=(kC x l s f d).map (·::st);cases kC x l s f d<;>rfl
 |two later a b iha ihb=>
  intro st;show jR x l s (post a++(post b++[_])) st=_;rw [iB,iha st];have e2:endOf x l s (.two later a b)=match endOf x l s a,endOf x l s b with
   |some p,some q=>some (if later=true then max p q else min p q)
   |_,_=>none:=rfl
  rw [e2];cases endOf x l s a with
  |none=>rfl
  |some p=>
   show jR x l s (post b++[_]) (p::st)=_;rw [iB,ihb (p::st)];cases endOf x l s b with
   |none=>rfl
   |some q=>
    cases later with
    |true=>show some (max q p::st)=some (max p q::st);rw [Nat.max_comm]
    |false=>show some (min q p::st)=some (min p q::st);rw [Nat.min_comm]
theorem lR:∀(e:Limit),(post e).length<=(shownLimit e).length
 | .start=>by decide
 | .plus e n u=>by have:=lR e;show (post e++[_]).length<=(shownLimit e++(43::(digits n++[unitText u]))).length;simp only [Sq,Si,Ur];omega
 | .one f e=>by have:=lR e;show (post e++[_]).length<=(oneText f++(shownLimit e++[41])).length;simp only [Sq,Si,Ur];omega
 | .two l a b=>by have:=lR a;have:=lR b;show (post a++(post b++[_])).length<=(ascii (if l then "later(" else "earlier(")++(shownLimit a++(44::(shownLimit b++[41])))).length;simp only [Sq,Si,Ur];omega
end OLm
end
section
namespace OLm
open VbptaaCore Vbptaa
theorem lS {good:Nat->Bool}:∀(i f n:Nat),i<f->i<=n->(∀j,j<i->good (n - j)=false)->good (n - i)=true->lastStart good f n=some (n - i)
 |0,f+1,n,_,_,_,h=>by unfold lastStart;rw [if_pos (by simpa using h)];rfl
 |i+1,f+1,n,h1,h2,h3,h4=>by unfold lastStart;have h0:=h3 0 (by omega);rw [if_neg (by rw [show good n=false from h0];simp),if_neg (by omega),lS i f (n - 1) (by omega) (by omega) (λj hj=>by have:=h3 (j+1) (by omega);rw [show n - 1 - j=n -(j+1) by omega];exact this) (by rw [show n - 1 - i=n -(i+1) by omega];exact h4)];congr 1;omega
 |i,0,n,h,_,_,_=>absurd h (Ug _)
theorem lT {good:Nat->Bool}:∀(f n:Nat),(∀j,j<f->j<=n->good (n - j)=false)->lastStart good f n=none
 |0,n,_=>rfl
 |f+1,n,h=>by
  unfold lastStart;have h0:=h 0 (by omega) (by omega);rw [if_neg (by rw [show good n=false from h0];simp)];split
  .rfl
  .exact lT f (n - 1) λj h1 h2=>by have:=h (j+1) (by omega) (by omega);rw [show n - 1 - j=n -(j+1) by omega];exact this
theorem gT {bad:Nat->Bool}:∀(i f n:Nat),i<f->(∀j,j<i->bad (n+j)=false)->bad (n+i)=true->firstStart bad f n=some (n+i)
 |0,f+1,n,_,_,h=>by unfold firstStart;rw [if_pos (by simpa using h)];rfl
 |i+1,f+1,n,h1,h3,h4=>by unfold firstStart;have h0:=h3 0 (by omega);rw [if_neg (by rw [show bad n=false from h0];simp),gT i f (n+1) (by omega) (λj hj=>by have:=h3 (j+1) (by omega);rw [show n+1+j=n+(j+1) by omega];exact this) (by rw [show n+1+i=n+(i+1) by omega];exact h4)];congr 1;omega
 |i,0,n,h,_,_=>absurd h (Ug _)
theorem gU {bad:Nat->Bool}:∀(f n:Nat),(∀j,j<f->bad (n+j)=false)->firstStart bad f n=none
 |0,n,_=>rfl
 |f+1,n,h=>by unfold firstStart;have h0:=h 0 (by omega);rw [if_neg (by rw [show bad n=false from h0];simp)];exact gU f (n+1) λj h1=>by have:=h (j+1) (by omega);rw [show n+1+j=n+(j+1) by omega];exact this
noncomputable def cZ (acts:List Act) (i:Nat):Nat:=((acts[i]?).map λy=>y.minute).getD 0
def CU (acts:List Act) (i j:Nat):Prop:=cZ acts i<cZ acts j\/(cZ acts i=cZ acts j/\i<=j)
noncomputable def og (acts:List Act) (ok:Act->Bool) (i:Nat):Bool:=(acts[i]?).any ok
noncomputable def DZ (acts:List Act) (ok:Act->Bool) (k:Nat):Option Nat->Prop
 |none=>∀i,i<k->og acts ok i=false
 |some j=>j<k/\og acts ok j=true/\∀i,i<k->og acts ok i=true->CU acts j i
theorem fO (acts:List Act) (ok:Act->Bool):DZ acts ok acts.length (firstAct acts ok):=by
 unfold firstAct;have go:∀k,k<=acts.length->DZ acts ok k ((SR k).foldl (λb i=>match acts[i]? with
  |none=>b
  |some x=>if ok x=false then b else match b with
   |none=>some i
   |some j=>if x.minute<((acts[j]?).map λy=>y.minute).getD 0 then some i else b) none):=by
  intro k;induction k with
  |zero=>intro _ i hi;exact absurd hi (Ug _)
  |succ k ih=>
   intro hk;have h:=ih (by omega);rw [Uq,List.foldl_append];generalize (SR k).foldl _ none=b at h ⊢;rw [List.foldl_cons,List.foldl_nil,Ss (by omega)];have ek:og acts ok k=ok acts[k]:=by unfold og;rw [Ss (by omega)];rfl
   have mk:cZ acts k=acts[k].minute:=by unfold cZ;rw [Ss (by omega)];rfl
   dsimp only;cases e:ok acts[k] with
   |false=>
    rw [if_pos rfl];cases b with
    |none=>
     intro i hi;by_cases z:i=k
     .subst z;rw [ek,e]
     .exact h i (by omega)
    |some j=>
     refine #[by have:=h.1;omega,h.2.1,λi hi ho=>?_];by_cases z:i=k
     .subst z;rw [ek,e] at ho;cases ho
     .exact h.2.2 i (by omega) ho
   |true=>
    rw [if_neg (by simp)];cases b with
    |none=>
     refine #[UH _,by rw [ek,e],λi hi ho=>?_];by_cases z:i=k
     .subst z;exact .inr #[rfl,Sf _]
     .rw [h i (by omega)] at ho;cases ho
    |some j=>
     dsimp only;obtain ⟨h1,h2,h3⟩:=h;by_cases c:acts[k].minute<((acts[j]?).map λy=>y.minute).getD 0
     .rw [if_pos c];have c':cZ acts k<cZ acts j:=by rw [mk];exact c
      refine #[UH _,by rw [ek,e],λi hi ho=>?_];by_cases z:i=k
      .subst z;exact .inr #[rfl,Sf _]
      .have:=h3 i (by omega) ho;unfold CU at this ⊢;omega
     .rw [if_neg c];have c':¬cZ acts k<cZ acts j:=by rw [mk];exact c
      refine #[by omega,h2,λi hi ho=>?_];by_cases z:i=k
      .subst z;unfold CU;omega
      .exact h3 i (by omega) ho
 exact go _ (Sf _)
theorem qy {ok:Act->Bool} {a b:Option Nat} (h:DZ acts ok acts.length a) (g:DZ acts ok acts.length b):a=b:=by
 cases a with
 |none=>
  cases b with
  |none=>rfl
  |some j=>have:=h j g.1;rw [g.2.1] at this;cases this
 |some i=>
  cases b with
  |none=>have:=g i h.1;rw [h.2.1] at this;cases this
  |some j=>have h1:=h.2.2 j g.1 g.2.1;have h2:=g.2.2 i h.1 h.2.1;unfold CU at h1 h2;congr 1;omega
theorem vC {ok:Act->Bool} {ns:List Nat} (hp:ns.Perm (SR acts.length)) (h:∀j∈ns,og acts ok j=false):firstAct acts ok=none:=
 qy (fO acts ok) λi hi=>h i (hp.mem_iff.mpr ((TU).mpr hi))
theorem vD {ok:Act->Bool} {ns:List Nat} (hp:ns.Perm (SR acts.length)) (hs:ns.Pairwise (CU acts)) {k n:Nat} (hk:ns[k]? =some n) (h:∀j∈ns.take k,og acts ok j=false) (ho:og acts ok n=true):firstAct acts ok=some n:=by
 have hm:n∈ns:=SE hk;refine qy (fO acts ok) #[(TU).mp (hp.mem_iff.mp hm),ho,λi hi hoi=>?_];have hi':i∈ns:=hp.mem_iff.mpr ((TU).mpr hi);obtain ⟨q,hq⟩:=Tt hi';obtain ⟨l1,e1⟩:=(Sl).mp hk;obtain ⟨l2,e2⟩:=(Sl).mp hq;rcases Nat.lt_trichotomy k q with c|c|c
 .have:=(TK).mp hs k q l1 l2 c;rw [e1,e2] at this;exact this
 .subst c;rw [e1] at e2;rw [e2];exact .inr #[rfl,Sf _]
 .have:i∈ns.take k:=by rw [List.mem_take_iff_getElem];exact #[q,by omega,e2]
  rw [h i this] at hoi;cases hoi
end OLm
end
section
namespace OLm
open VbptaaCore Vbptaa
noncomputable def zn (f:Nat) (t:SV):Option (Limit×Nat×SV):=
    if begins START t=true then some (.start,1,t.drop 5)
    else match ONES.find? λx=>begins x.1 t with
    |some x=>(match jm f (t.drop x.1.length) with
     |some (e,d,41::r)=>some (.one x.2 e,d+1,r)
     |_=>none)
    |none=>match TWOS.find? λx=>begins x.1 t with
     |some x=>(match jm f (t.drop x.1.length) with
      |some (a,da,44::r)=>(match jm f r with
       |some (b,db,41::q)=>some (.two x.2 a b,max da db+1,q)
       |_=>none)
      |_=>none)
     |none=>none
noncomputable def tl (e:Limit) (q:SV):Option (Limit×SV):=tails q.length e q
theorem yw {F:Nat} {d:Nat} (h:jm F t=some (e,d,r)):r.length<=t.length:=by have:=congrArg T7 (jQ F t e d r h);rw [Sq] at this;omega
theorem Jl (f:Nat) (t:SV):jm (f+1) t=(zn f t).bind λx=>(tl x.1 x.2.2).map λy=>(y.1,x.2.1,y.2):=by
 have fu:∀{q:SV} (e:Limit),q.length<=t.length->tails t.length e q=tl e q:=λ{q} e h=>oa q.length q (Sf _) _ _ e h (Sf _);unfold jm zn;by_cases c:begins START t=true
 .rw [if_pos c,if_pos c,fu .start (by rw [SQ];omega)];rfl
 .rw [if_neg c,if_neg c];cases e1:ONES.find? λx=>begins x.1 t with
  |some x=>
   dsimp only;split
   .rename_i e d r e2;have:=yw e2;rw [SQ,Si] at this;rw [fu _ (by omega)]
    first|rfl|(rw [e2];rfl)
   .rename_i h
    first
     |rfl
     |(split
       .rename_i e d r e2;exact absurd e2 (h e d r)
       .rfl)
  |none=>
   dsimp only;cases e2:TWOS.find? λx=>begins x.1 t with
   |none=>rfl
   |some x=>
    dsimp only;split
    .rename_i a da r e3;have l1:=yw e3;rw [SQ,Si] at l1;split
     .rename_i b db q e4;have l2:=yw e4;rw [Si] at l2;rw [fu _ (by omega)]
      first|rfl|(simp only [e3,e4];rfl)
     .rename_i h
      first|rfl|(simp only [e3];rfl)
    .rename_i h
     first
      |rfl
      |(split
        .rename_i a da r e3;exact absurd e3 (h a da r)
        .rfl)
theorem Jm (e:Limit) (r:SV):tl e (43::r)=match d_ r with
 |some (n,u,q)=>tl (.plus e n u) q
 |none=>none:=by
 unfold tl;rw [Si,ky];cases h:d_ r with
 |none=>rfl
 |some x=>obtain ⟨n,u,q⟩:=x;dsimp only;exact oa q.length q (Sf _) _ _ _ (by have:=(kz h).1;omega) (Sf _)
theorem Jn (e:Limit) (t:SV) (h:∀r,t≠43::r):tl e t=some (e,t):=gh _ e t h
noncomputable def uZ (F:Nat) (t:SV):Bool->Option (List Step×Nat×SV)
 |true=>(match jm F t with
  |some (e,d,41::r)=>some (post e,d+1,r)
  |_=>none)
 |false=>(match jm F t with
  |some (a,da,44::r)=>(match jm F r with
   |some (b,db,41::q)=>some (post a++post b,max da db+1,q)
   |_=>none)
  |_=>none)
noncomputable def ones:List One:=[.receipt,.open_,.back,.month,.going]
theorem D0:ONES=ones.map λf=>(oneText f,f):=rfl
noncomputable def eM (b:Bool):SV:=ascii (if b then "later(" else "earlier(")
noncomputable def CV:List Bool:=[true,false]
theorem D1:TWOS=CV.map λb=>(eM b,b):=rfl
theorem yx {α:Type} {p:α->Bool}:∀{l:List α} {i:Nat} {a:α},l[i]? =some a->(∀x∈l.take i,p x=false)->p a=true->l.find? p=some a
 |[],i,a,h,_,_=>by simp at h
 |x::l,0,a,h,_,ha=>by have e:x=a:=Sd h;subst e;rw [List.find?_cons_of_pos ha]
 |x::l,i+1,a,h,hb,ha=>by rw [List.find?_cons_of_neg (by rw [hb x (by simp)];simp)];exact yx (i:=i) h (λy hy=>hb y (by simp [hy])) ha
theorem D2 {α:Type} {p:α->Bool} {l:List α} (h:∀x∈l,p x=false):l.find? p=none:=List.find?_eq_none.mpr λx hx=>by rw [h x hx];simp
theorem G6 {i:Nat} (h:ones[i]? =some f) (hb:∀g∈ones.take i,begins (oneText g) t=false) (hf:begins (oneText f) t=true):(ONES.find? λx=>begins x.1 t)=some (oneText f,f):=by rw [D0,List.find?_map,yx (p:=(λx:SV×One=>begins x.1 t)∘λf=>(oneText f,f)) h hb hf];rfl
theorem G7 (h:∀g∈ones,begins (oneText g) t=false):(ONES.find? λx=>begins x.1 t)=none:=by rw [D0,List.find?_map,D2 (p:=(λx:SV×One=>begins x.1 t)∘λf=>(oneText f,f)) h];rfl
theorem two_find {i:Nat} {f:Bool} (h:CV[i]? =some f) (hb:∀g∈CV.take i,begins (eM g) t=false) (hf:begins (eM f) t=true):(TWOS.find? λx=>begins x.1 t)=some (eM f,f):=by rw [D1,List.find?_map,yx (p:=(λx:SV×Bool=>begins x.1 t)∘λf=>(eM f,f)) h hb hf];rfl
theorem G8 (h:∀g∈CV,begins (eM g) t=false):(TWOS.find? λx=>begins x.1 t)=none:=by rw [D1,List.find?_map,D2 (p:=(λx:SV×Bool=>begins x.1 t)∘λf=>(eM f,f)) h];rfl
theorem EW {f:Nat} (h:begins START t=true):zn f t=some (.start,1,t.drop 5):=by unfold zn;rw [if_pos h]
theorem Jo {f:Nat} (h:begins START t=false) (e:(ONES.find? λx=>begins x.1 t)=some x):zn f t=match uZ f (t.drop x.1.length) true with
 |some (l,d,q)=>(match jm f (t.drop x.1.length) with
  |some (e,_,_)=>some (.one x.2 e,d,q)
  |none=>none)
 |none=>none:=by
 unfold zn uZ;rw [if_neg (by rw [h];simp),e];dsimp only;split
 .rename_i e d r e2;rw [e2]
 .rfl
theorem D4 {f:Nat} (h:begins START t=false) (e0:(ONES.find? λx=>begins x.1 t)=none) {x:SV×Bool} (e:(TWOS.find? λx=>begins x.1 t)=some x):zn f t=match jm f (t.drop x.1.length) with
        |some (a,da,44::r)=>(match jm f r with
         |some (b,db,41::q)=>some (.two x.2 a b,max da db+1,q)
         |_=>none)
        |_=>none:=by
 unfold zn;rw [if_neg (by rw [h];simp),e0];dsimp only;rw [e]
theorem G9 {f:Nat} (h:begins START t=false) (e0:(ONES.find? λx=>begins x.1 t)=none) (e:(TWOS.find? λx=>begins x.1 t)=none):zn f t=none:=by unfold zn;rw [if_neg (by rw [h];simp),e0];dsimp only;rw [e]
theorem AK {F:Nat} {d:Nat} (h:uZ F t true=some (m,d,q)):∃e d',jm F t=some (e,d',41::q)/\m=post e/\d=d'+1:=by
 have h:(match jm F t with
  |some (e,d,41::r)=>some (post e,d+1,r)
  |_=>none)=some (m,d,q):=h
 split at h
 .rename_i e d' r e1;cases h;exact #[e,d',e1,rfl,rfl]
 .cases h
theorem AL {F:Nat} {d:Nat} (h:uZ F t false=some (m,d,q)):∃a da r b db,jm F t=some (a,da,44::r)/\jm F r=some (b,db,41::q)/\m=post a++post b/\d=max da db+1:=by
 have h:(match jm F t with
  |some (a,da,44::r)=>(match jm F r with
   |some (b,db,41::q)=>some (post a++post b,max da db+1,q)
   |_=>none)
  |_=>none)=some (m,d,q):=h
 split at h
 .rename_i a da r e1;split at h
  .rename_i b db q' e2;cases h;exact #[a,da,r,b,db,e1,e2,rfl,rfl]
  .cases h
 .cases h
theorem G_ {f:Nat} (h:begins START t=false) (e:(ONES.find? λx=>begins x.1 t)=some x) {d:Nat} (g:jm f (t.drop x.1.length)=some (e0,d,41::q)):zn f t=some (.one x.2 e0,d+1,q):=by unfold zn;rw [if_neg (by rw [h];simp),e];simp only [g]
theorem Ha {f:Nat} (h:begins START t=false) (e0:(ONES.find? λx=>begins x.1 t)=none) {x:SV×Bool} (e:(TWOS.find? λx=>begins x.1 t)=some x) {da db:Nat} (g1:jm f (t.drop x.1.length)=some (a,da,44::r)) (g2:jm f r=some (b,db,41::q)):zn f t=some (.two x.2 a b,max da db+1,q):=by rw [D4 h e0 e];simp only [g1,g2]
theorem Hb {f:Nat} (h:begins START t=false) (e0:(ONES.find? λx=>begins x.1 t)=none) {x:SV×Bool} (e:(TWOS.find? λx=>begins x.1 t)=some x) (g:uZ f (t.drop x.1.length) false=none):zn f t=none:=by
 cases hb:zn f t with
 |none=>rfl
 |some y=>
  rw [D4 h e0 e] at hb;split at hb
  .rename_i a da r e1;split at hb
   .rename_i b db q e2;have:uZ f (t.drop x.1.length) false=some (post a++post b,max da db+1,q):=by unfold uZ;simp only [e1,e2]
    rw [g] at this;cases this
   .cases hb
  .cases hb
theorem Hd {f:Nat} (h:begins START t=false) (e:(ONES.find? λx=>begins x.1 t)=some x) (g:uZ f (t.drop x.1.length) true=none):zn f t=none:=by rw [Jo h e,g]
end OLm
end
section
namespace OLm
open VbptaaCore Vbptaa
noncomputable def ua:Step->Nat->Option Nat
 | .start,k=>some (k+1)
 | .later,k+2=>some (k+1)
 | .dA,k+2=>some (k+1)
 | .one _,k+1=>some (k+1)
 | .plus _ _,k+1=>some (k+1)
 |_,_=>none
noncomputable def dep:List Step->Nat->Option Nat
 |[],k=>some k
 |a::r,k=>(ua a k).bind (dep r)
theorem mG:∀(a b:List Step) (k:Nat),dep (a++b) k=(dep a k).bind (dep b)
 |[],b,k=>rfl
 |a::r,b,k=>by
  show (ua a k).bind (dep (r++b))=((ua a k).bind (dep r)).bind (dep b);cases ua a k with
  |none=>rfl
  |some j=>exact mG r b j
theorem lU:∀(e:Limit) (k:Nat),dep (post e) k=some (k+1)
 | .start,k=>rfl
 | .plus e n u,k=>by show dep (post e++[_]) k=_;rw [mG,lU e k];rfl
 | .one f e,k=>by show dep (post e++[_]) k=_;rw [mG,lU e k];rfl
 | .two l a b,k=>by show dep (post a++(post b++[_])) k=_;rw [mG,lU a k];show dep (post b++[_]) (k+1)=_;rw [mG,lU b (k+1)];cases l<;>rfl
theorem EX {s:Nat} {st st':List Nat} (h:fY x l s a st=some st'):ua a st.length=some st'.length:=by
 cases a with
 |start=>cases h;rfl
 |later=>
  match st,h with
  |p::q::st,h=>cases h;rfl
 |dA=>
  match st,h with
  |p::q::st,h=>cases h;rfl
 |one f=>
  match st,h with
  |d::st,h=>
   have h:(kC x l s f d).map (·::st)=some st':=h;cases e:kC x l s f d with
   |none=>rw [e] at h;cases h
   |some y=>rw [e] at h;cases h;rfl
 |plus u n=>
  match st,h with
  |d::st,h=>
   have h:(iA x u n d).map (·::st)=some st':=h;cases e:iA x u n d with
   |none=>rw [e] at h;cases h
   |some y=>rw [e] at h;cases h;rfl
theorem AM {s:Nat}:∀{r:List Step} {st st':List Nat},jR x l s r st=some st'->dep r st.length=some st'.length
 |[],st,st',h=>by cases h;rfl
 |a::r,st,st',h=>by
  have h:(fY x l s a st).bind (jR x l s r)=some st':=h;cases e:fY x l s a st with
  |none=>rw [e] at h;cases h
  |some u=>rw [e] at h;show (ua a st.length).bind (dep r)=_;rw [EX e];exact AM h
theorem Mi {s:Nat} {i:Nat} {st:List Nat} (ha:(post e)[i]? =some a) (h:jR x l s ((post e).take i) []=some st):(ua a st.length).isSome=true:=by
 have h1:=AM h;have h2:=lU e 0;have e1:post e=(post e).take i++(a::(post e).drop (i+1)):=by obtain ⟨hi,hq⟩:=(Sl).mp ha;rw [<-hq,<-List.drop_eq_getElem_cons hi,Uc]
 rw [e1,mG] at h2;have h1:dep ((post e).take i) 0=some st.length:=h1;rw [h1] at h2;have h2:(ua a st.length).bind (dep ((post e).drop (i+1)))=some 1:=h2;cases e:ua a st.length with
 |none=>rw [e] at h2;cases h2
 |some _=>rfl
theorem D5 (ha:a= .later\/a= .dA):∀{st:List Nat},(ua a st.length).isSome=true->∃p q r,st=p::q::r
 |[],h=>by rcases ha with rfl|rfl<;>cases h
 |[p],h=>by rcases ha with rfl|rfl<;>cases h
 |p::q::r,_=>#[p,q,r,rfl]
theorem D6 (ha:(∃f,a= .one f)\/∃u n,a= .plus u n):∀{st:List Nat},(ua a st.length).isSome=true->∃p r,st=p::r
 |[],h=>by rcases ha with ⟨_,rfl⟩|⟨_,_,rfl⟩<;>cases h
 |p::r,_=>#[p,r,rfl]
theorem EY {x:Land} {l:Stops} {s:Nat} {r:List Step} {i:Nat} {a:Step} {st:List Nat} (ha:r[i]? =some a) (h:jR x l s (r.take i) []=some st):jR x l s (r.take (i+1)) []=fY x l s a st:=by
 have e:r.take (i+1)=r.take i++[a]:=by rw [List.take_add_one,ha];rfl
 rw [e,iB,h];show (fY x l s a st).bind (λst=>some st)=_;cases fY x l s a st<;>rfl
theorem qz {s:Nat} (hs:s<=LAST) {i:Nat} (h:jR x l s ((post e).take i) []=none):endOf x l s e=none:=by
 have h1:=wU x l s hs e [];rw [<-Uc i (post e),iB,h] at h1;cases e1:endOf x l s e with
 |none=>rfl
 |some d=>rw [e1] at h1;cases h1
theorem He {s:Nat} (hs:s<=LAST) {st:List Nat} (h:jR x l s (post e) []=some st):∃d,endOf x l s e=some d/\st=[d]:=by
 have h1:=wU x l s hs e [];rw [h] at h1;cases e1:endOf x l s e with
 |none=>rw [e1] at h1;cases h1
 |some d=>rw [e1] at h1;cases h1;exact #[d,rfl,rfl]
noncomputable def Fv (x:Land):Step->Nat->Option Nat
 | .plus .day n,d=>some (d+n)
 | .plus .week n,d=>some (d+7*n)
 | .plus .month n,d=>some (addMonths d n)
 | .plus .year n,d=>some (addMonths d (12*n))
 | .plus .open_ n,d=>some (kthOpen x.calendar n d)
 | .one .receipt,d=>some (d+x.post)
 | .one .open_,d=>some (nextOpen x.calendar d)
 | .one .back,d=>lastOpen x.calendar d
 | .one .month,d=>some (monthEnd d)
 |_,_=>none
noncomputable def PN:Step->Bool
 | .plus _ _=>true
 | .one .going=>false
 | .one _=>true
 |_=>false
theorem CW {n d:Nat} (h:few n=some d):d=n/\d<=LAST:=by
 unfold few at h;split at h
 .cases h;exact #[rfl,by assumption]
 .cases h
theorem CY {n:Nat} (h:n<=LAST):few n=some n:=if_pos h
theorem Hf {n:Nat} (h:LAST<n):few n=none:=if_neg (by omega)
theorem Jp (K:jN c) {n d:Nat} (h:lastOpen c n=some d):d<=n:=by
 rcases yq K n with ⟨q,a,b,_⟩|⟨a,_⟩
 .rw [a] at h;cases h;exact b
 .rw [a] at h;cases h
theorem yy (x:Land) (l:Stops) (s:Nat) (K:jN x.calendar) (ha:PN a=true) {d:Nat} {r:List Nat} (hd:d<=LAST):fY x l s a (d::r)=(Fv x a d).bind λy=>(few y).map (·::r):=by
 cases a with
 |plus u n=>cases u<;>rfl
 |one f=>
  cases f with
  |going=>cases ha
  |receipt=>rfl
  |open_=>rfl
  |month=>rfl
  |back=>
   show (lastOpen x.calendar d).map (·::r)=(lastOpen x.calendar d).bind _;cases e:lastOpen x.calendar d with
   |none=>rfl
   |some y=>have:=Jp K e;show some (y::r)=(few y).map (·::r);rw [CY (by omega)];rfl
 |start=>cases ha
 |later=>cases ha
 |dA=>cases ha
end OLm
end
open L2 in
local macro_rules| `(tactic|rfl')=>do
  let t1←("LL Qj NT RY Oj QL Qh NS tL CD LM Ql NJ N7 QJ N8 Qe Op N9 Of IK Oi LA QP Qk Oo NF QY NY LO QI IN LB QQ NV IQ QZ Qq L4 Ou LG IM QH LU L3 NX LI N2 N0 NZ QU QK Lj NG Qg On Os Qv QC QB LW GA IP Q2 Q3 NL Qs QG LV LX QW IV N_ LD QM QN Qi Lk QF OB OC IW OG Od Q0 Q1 Om NR Qm Qw Qx Oz GD OH Oq OJ NN GC GF Oa Ob LF Oc LH LJ LK OI NE NP Ll Lu QD N6 N4 N3 NH NI QV OD OE QX OF IX GG IY L5 L6 I0 L7 L8 L9 OV LC".splitOn " ").toArray.mapM λs=>let i:=Lean.mkIdent (.str (if s=="OV" then `OL else `L2) s);`(tacticSeq|refine $i:ident ?_)
  let t2←("Ot Lr GJ IZ L1 J8".splitOn " ").toArray.mapM λs=>let i:=Lean.mkIdent (.str `L2 s);`(tacticSeq|refine $i:ident (by assumption) ?_)
  `(tactic|((try dsimp only [L2.zKx,L2.zKn]);repeat (first
    |((with_reducible first|refine' Oe ?he ?_|refine' Ol ?he ?_);(case he=>exact rfl))|(with_reducible first $[|$t1]*)
    |((with_reducible refine' J7 ?ha ?he ?_);(case ha=>exact ij.of (by assumption));(case he=>exact rfl))
    |((with_reducible refine' oW ?ha ?he ?_);(case ha=>exact cB.of (by assumption));(case he=>first|exact rfl|exact mF (by decide) rfl))
    |(with_reducible first $[|$t2]*)
   )))
namespace OL
open PySem PySem.Spec PyProof.Rows L2 VbptaaCore OLm
noncomputable def OP:Str:="numbers_by_minute.<locals>.<lambda>"
def Mj (H:Hp) (ps:Array UU):Prop:=ps= #[]\/∃a,ps= [rawInt 678,rawInt 40,.ref a].toArray/\H a=some (.ext λh=>h.CodeRec (.ref a) OP)
def mT (c:Cl) (H:Hp):Prop:=∃ps,H c.tab=some (.jC ps)/\Mj H ps
structure jS (K:UT) (mg:Str->Option UU) (base:Ti) (tab:KE):Prop where
 code:∀f oc od fd osl,mg "numbers_by_minute" =some (.ref f)->K.lookup f=some #[oc,od,.func fd,osl]->∃cc,fd.code= .ref cc/\PySem.W.CodeHd base cc tab
 bm:BMain mg base
noncomputable def gi (c:Cl) (K:UT):Sp:=λvs H Q _=>∃(a:KE) (ns:List Int),vs=[.ref a]/\cB K H a (ns.map V.int)/\mT c H/\ns.length<=16000/\PyVbptaa.answers_asked ns=true/\
 ∀H' q,H' q=some (.lst ((PyVbptaa.answers ns).map V.int))->(PyVbptaa.answers ns).length<=500000->Q (.ref q) H'
structure Sx where
 P:SN
 w:S_
 K:UT
 mg:Str->Option UU
 base:Ti
 c:Cl
def Sx.ok (s:Sx):Prop:=Txt s.P s.w s.K s.mg s.c->jS s.K s.mg s.base s.c.tab->∀{f:KE} {fd:Uf},wp s.K "answers" "answers" (top 158) f fd->gE s.P s.w s.K s.mg s.base d8 72 f fd ["calls"] (gi s.c s.K)
noncomputable def sx:Sx:=@Classical.epsilon Sx #[default,#[λ_ _=>0,{strHash:=λ_=>0,shareClass:=λ_=>0,mergeTok:=id,idOf:=λ_=>0,idOfShared:=λ_ _=>0,followText:=λ_=>false,idOfImm:=λ_=>0}],[],λ_=>none,default,#[0,0,0,0,0,0,0,0,0,0,0,0,0,0,0,0,0,0,0,0]] λs=>¬s.ok
@[irreducible] noncomputable def xP:=sx.P
@[irreducible] noncomputable def xw:=sx.w
@[irreducible] noncomputable def xK:=sx.K
@[irreducible] noncomputable def xM:=sx.mg
@[irreducible] noncomputable def xB:=sx.base
@[irreducible] noncomputable def xC:=sx.c
noncomputable abbrev Tx:=Txt xP xw xK xM xC
noncomputable abbrev FO:=JY xP xw xK xM xB
noncomputable abbrev MO:=vw xP xw xK xM xB
noncomputable abbrev KO:=Gk xP xw xK xM xB
theorem Ml (h:Txt xP xw xK xM xC->jS xK xM xB xC.tab->∀{f:KE} {fd:Uf},wp xK "answers" "answers" (top 158) f fd->gE xP xw xK xM xB d8 72 f fd ["calls"] (gi xC xK)) (s:Sx):s.ok:=by refine S7 λz=>?_;have e:=Classical.epsilon_spec_aux #[s] (λs:Sx=>¬s.ok) #[s,z];refine e ?_;unfold xP xw xK xM xB xC at h;exact h
end OL
namespace OL
open PySem PySem.Spec PyProof.Rows L2 VbptaaCore OLm open OL renaming xP->P,xw->w,xK->K,xM->mg,xB->base,xC->c
local macro_rules|`(tactic|walk_at "ro")=>do
  let a:=("Go,Gp,DK,Gv,Ao,Gw,Oy,Gx,Gy,Gz,DM,LP,QR,LQ,CG,rJoin,Ic,Pz,EC,ww,wx,Ga,Ld,xZ,Gb,Gj,Li,CB,JZ,PD,KZ,Qb,Lg,oM,xW,K4,x8,P5,xQ,F6,KW,Lh,Cy,PB,Cg,ED,Dz,FN,KJ,Le,FQ,Gd,K5,Px,rU,FJ,FI,KD,KC,FF,PX,KA,KB,JQ,FV,tB,Ih,nU,tC,rI,HQ,Py,M6,Cb,kZ,tp,fN,ly,KI,Pw,FR,IF,EL,PY,F0,F1,Ir,F7,Np,FT,L2.start,L2.sc_ii,L2.sc_ss,S1,List.map_nil,Si,Ur,List.replicate,List.cons_append,List.nil_append,List.getElem?_cons_zero,List.getElem?_cons_succ,List.set_cons_zero,List.set_cons_succ,Option.some.injEq,exists_eq_left',exists_eq_left,V.int.injEq,V.bl.injEq,V.str.injEq,V.ref.injEq,List.cons.injEq,and_true,true_and,and_assoc,exists_and_left,exists_and_right,Td,Nat.sub_zero,Nat.sub_self,Nat.reduceSub,Nat.reduceAdd,if_false,if_true,Bool.false_eq_true,decide_eq_true_eq,reduceCtorEq,Int.reduceLT,Int.reduceLE,Int.reduceNeg,Int.reducePow,true_or,or_true,L2.En,L2.Ends.sq,L2.II,L2.J0,L2.Rn,L2.kB,L2.Ro,L2.NK,L2.NM,L2.NO,L2.J4,L2.J5,L2.NQ,L2.Gn,L2.Rp,L2.Rq,L2.Ln,L2.Rr,L2.Rs,L2.Rt,L2.Ru,L2.RR,L2.RS,L2.NU,L2.IJ,L2.Qn,L2.Lq,L2.Rv,L2.Rw,L2.Rx,L2.NW,L2.Lv,L2.Ry,L2.Qo,L2.RT,L2.Qp,L2.Rz,L2.Qr,L2.RA,L2.Qt,L2.Qu,L2.RB,L2.RC,L2.Qy,L2.Qz,L2.RE,L2.RF,L2.RU,L2.RG,L2.QE,L2.RH,L2.RI,L2.Lw,L2.Lx,L2.N1,L2.Ly,L2.Lz,L2.N5,L2.RV,L2.RW,L2.RX".splitOn ",").toArray.map λs=>Lean.mkIdent s.toName
  `(tactic|simp only [$[$a:ident],*])
local macro_rules|`(tactic|walk_at "rd")=>`(tactic|(rfl';(repeat ((with_reducible refine' L2.IL ?zc ?_);(case zc=>((try dsimp only [L2.Np,L2.FT]);first|decide|exact Or.inl (by decide)|exact Or.inr (by decide)));rfl'));try walk_at "ro"))
local macro_rules| `(tactic|ext)=>`(tactic|exact #[rfl,rfl,rfl,by decide+kernel,rfl,by decide+kernel,by decide+kernel])
local macro_rules| `(tactic|ext)=>`(tactic|(intro vs H Q E h;cases (h);rename_i h;obtain ⟨e,_⟩:=h;subst e;exact rfl))
section
theorem CZ:al ["year"] ["year"] (ah (top 7)):=by ext
noncomputable def C0:Sp:=yj λ(y:Nat) vs H Q _=>vs=[.int y]/\Q (.bl (leap y)) H
theorem C5 (T:Tx):FO d8 1 "is_leap" ["year"] C0:=by
 refine T.Ed.g CZ (by ext) λ_ _ _ _ _ H vs Q E hr h=>?_
 .obtain ⟨y,rfl,k⟩:=h;exists (ac (am (Ni (iQ dF (az fM (pv 0) ag) ag (aE _)) (sX (xL (iQ dF (az fM (pv 0) ag) ag (aE _)) (sX (iQ z3 (az fM (pv 0) ag) ag (aE _))))))));walk_at "rd";have e:leap y=(decide ((y:Int)%400=0)||(decide ((y:Int)%4=0)&& !decide ((y:Int)%100=0))):=by unfold leap;rw [TV];simp only [S9,Us,beq_iff_eq,bne_iff_ne,decide_eq_true_eq,Bool.not_eq_true',decide_eq_false_iff_not];omega
  rw [e] at k;by_cases c1:(y:Int)%400=0
  .rw [if_pos c1];simpa [c1] using k
  .rw [if_neg c1];by_cases c2:(y:Int)%4=0
   .rw [if_pos c2];simpa [c1,c2] using k
   .rw [if_neg c2];simpa [c1,c2] using k
noncomputable def ML:List V:=[.int 31,.int 28,.int 31,.int 30,.int 31,.int 30,.int 31,.int 31,.int 30,.int 31,.int 30,.int 31]
theorem OQ (y m:Nat) (h1:1<=m) (h2:m<=12) (hn:¬(m=2/\leap y=true)):Co ML ((m:Int)- 1)=some (.int (monthDays y m)):=by
 obtain ⟨j,rfl⟩:∃j,m=j+1:=#[m - 1,by omega];refine at_of (j:=j) (by omega) ?_
 match j,h2 with
 |0,_|2,_|3,_|4,_|5,_|6,_|7,_|8,_|9,_|10,_|11,_=>rfl
 |1,_=>
  have:leap y=false:=by cases e:leap y with|false=>rfl|true=>exact absurd #[rfl,e] hn
  unfold monthDays;rw [if_pos rfl,this];rfl
 |j+12,h=>omega
theorem rN:al ["year","month"] ["year","month"] (ah (top 8)):=by ext
noncomputable def rO:Sp:=Jf λ(y m:Nat) vs H Q _=>vs=[.int y,.int m]/\1<=m/\m<=12/\Q (.int (monthDays y m)) H
theorem a_ (T:Tx):FO d8 2 "month_length" ["year","month"] rO:=by
 obtain ⟨ml,h_MONTH_LENGTHS,sml⟩:=T.rA;refine T.sE.g rN (by ext) λ_ _ _ _ _ H vs Q E hr h=>?_
 .obtain ⟨y,m,rfl,h1,h2,k⟩:=h;exists (aa (aL (PW.pt (sW (aA dF (pv 1) ag (aE _)) (oG (c9 (fW (C5 T) hr.m (aV (pv 0))))))) (ac (am ag)) aC)
   (ac (am (k9 (gR h_MONTH_LENGTHS rfl) (az cq (pv 1) ag)))))
  walk_at "rd";have last:¬(m=2/\leap y=true)->∃x,ij K H ml x/\∃x_1,Co x ((m:Int)- 1)=some x_1/\Q x_1 H:=λhn=>#[_,sml H,_,OQ y m h1 h2 hn,k];by_cases c:m=2
  .subst c;rw [if_pos (by decide)];refine #[y,rfl,?_];walk_at "rd";by_cases d:leap y=true
   .rw [if_pos d];have e:monthDays y 2=29:=by unfold monthDays;rw [if_pos rfl,if_pos d]
    rw [e] at k;exact k
   .rw [if_neg d];exact last λq=>d q.2
  .rw [if_neg (by omega)];exact last λq=>c q.1
theorem jn:al ["year","since","leaps"] ["year"] (ah (top 9)):=by ext
noncomputable def vE:Sp:=yj λ(y:Nat) vs H Q _=>vs=[.int y]/\2000<=y/\Q (.int (beforeYear y)) H
theorem jo (T:Tx):FO d8 1 "year_start" ["year"] vE:=by
 refine T.xj.g jn (by ext) λ_ _ _ _ _ H vs Q E hr h=>?_
 .obtain ⟨y,rfl,h1,k⟩:=h;exists (aa (bt 1 jn.nd (az cq (pv 0) (gI 2000 T.fE rfl)))
   (aa (bt 2 jn.nd (az aP (az cq (az eI (az aP (pv 1) ag) ag) (az eI (az aP (pv 1) ag) ag)) (az eI (az aP (pv 1) ag) ag)))
   (ac (am (az aP (az ip ag (pv 1)) (pv 2))))))
  walk_at "rd";rw [vz y h1] at k;exact k
theorem mH:al ["year","month","date","day","earlier"] ["year","month","date"] (ah (top 10)):=by ext
noncomputable def EZ:Sp:=Fu λ(y m d:Nat) vs H Q _=>vs=[.int y,.int m,.int d]/\2000<=y/\1<=m/\m<=12/\1<=d/\Q (.int (dayOf #[y,m,d])) H
theorem fB (T:Tx):FO d8 3 "day_of" ["year","month","date"] EZ:=by
 refine T.Fw.g mH (by ext) λ_ _ _ _ _ H vs Q E hr h=>?_
 .obtain ⟨y,m,d,rfl,h1,h2,h3,h4,k⟩:=h;exists (aa (bt 3 mH.nd (az cq (az aP (fW (jo T) hr.m (aV (pv 0))) (pv 2)) ag))
   (aa (cp Tb rfl (mB rfl T.hX (cz ag (pv 1))) (bg (i:=4) mH.nd rfl (by first|exact Tk rfl|exact Tp rfl)) (ac (j_ (i:=3) mH.nd rfl (by first|exact Tk rfl|exact Tp rfl) (fW (a_ T) hr.m (cz (pv 0) (pv 4))) nV)))
   (ac (am (pv 3)))))
  walk_at "rd";refine #[y,rfl,h1,?_];walk_at "rd";refine #[by omega,by omega,kj (λi σ' H'=>H'=H/\∃v,σ'=[some (.int y),some (.int m),some (.int d),some (.int (beforeYear y+d - 1+beforeMonth y (i+1))),v]) ?_ ?_ ?_]
  .exact #[rfl,none,by rw [fe];simp]
  .rintro i σ' H' hi ⟨rfl,v,rfl⟩;walk_at "rd";refine #[y,i+1,by simp [Int.add_comm],by omega,by omega,?_];walk_at "rd";exact #[by rw [dh y (i+1) (by omega)];simp [Int.add_assoc],_,rfl]
  .rintro σ' H' ⟨rfl,v,rfl⟩;walk_at "rd";have e:((m:Int)- 1).toNat+1=m:=by omega
   rw [e];have e2:((dayOf ⟨y,m,d⟩:Nat):Int)=(beforeYear y:Int)+d - 1+beforeMonth y m:=by unfold dayOf;simp only;omega
   rw [<-e2];exact k
theorem oh:al ["day","year"] ["day"] (ah (top 11)):=by ext
noncomputable def C6:Sp:=yj λ(n:Nat) vs H Q _=>vs=[.int n]/\Q (.int (yearOf n)) H
theorem uc (T:Tx):FO d8 2 "year_of" ["day"] C6:=by
 refine T.Ee.g oh (by ext) λ_ _ _ _ _ H vs Q E hr h=>?_
 .obtain ⟨n,rfl,k⟩:=h;exists (aa (bt 1 oh.nd (az aP (gI 2000 T.fE rfl) (az eI (pv 0) ag)))
   (aa (gC Tb (aA wv (fW (jo T) hr.m (aV (az aP (pv 1) ag))) (pv 0) (aE _)) (ac (j_ (i:=1) oh.nd rfl (by first|exact Tk rfl|exact Tp rfl) ag nV)))
   (ac (am (pv 1)))))
  walk_at "rd";have hdl:=GZ n;refine lE (λm σ' H'=>H'=H/\∃y:Nat,σ'=[some (.int n),some (.int y)]/\2000<=y/\y+m=2000+n/365+1/\yearFrom m y n=yearOf n) (m0:=n/365+1 - n/366) #[rfl,2000+n/366,by simp,by omega,by omega,rfl] ?_;rintro m σ' H' ⟨rfl,y,rfl,h2,e,ey⟩;walk_at "rd";refine #[y+1,by simp,by omega,?_];walk_at "rd";by_cases c:beforeYear (y+1)<=n
  .rw [if_pos (by omega)];have hm:=vA m y n h2 e c;obtain ⟨m',rfl⟩:∃m',m=m'+1:=#[m - 1,by omega];refine #[λσ' H''=>H''=H'/\σ'=[some (.int n),some (.int (y+1:Nat))],?_,?_]
   .rintro σ' H'' ⟨rfl,rfl⟩;exact #[m',by omega,rfl,y+1,rfl,by omega,by omega,by rw [<-ey,nl m' y n c]]
   .exact #[rfl,by simp]
  .rw [if_neg (by omega)];rw [<-ey,nu m y n c] at k;exact k
theorem gj:al ["day","year","left","month"] ["day"] (ah (top 12)):=by ext
noncomputable def C7:Sp:=yj λ(n:Nat) vs H Q _=>vs=[.int n]/\∀p,H p=none->Q (.ref p) (upd H p (.tup [.int (dateOf n).y,.int (dateOf n).m,.int (dateOf n).d]))
theorem oj (T:Tx):FO d8 3 "date_of" ["day"] C7:=by
 refine T.Ef.g gj (by ext) λf _ _ _ _ H vs Q E hr h=>?_
 .obtain ⟨n,rfl,k⟩:=h;exists (aa (bt 1 gj.nd (fW (uc T) hr.m (aV (pv 0))))
   (aa (bt 2 gj.nd (az cq (pv 0) (fW (jo T) hr.m (aV (pv 1)))))
   (aa (bt 3 gj.nd ag)
   (aa (gC Tb (aA DD (pv 2) (fW (a_ T) hr.m (cz (pv 1) (pv 3))) (aE _)) (aa (j_ (i:=2) gj.nd rfl (by first|exact Tk rfl|exact Tp rfl) (fW (a_ T) hr.m (cz (pv 1) (pv 3))) FL)
   (ac (j_ (i:=3) gj.nd rfl (by first|exact Tk rfl|exact Tp rfl) ag nV))))
   (ac (am (gQ (dH (pv 1) (pv 3) (az aP (pv 2) ag)))))))))
  walk_at "rd";refine #[n,rfl,?_];walk_at "rd";refine #[yearOf n,rfl,eJ n,?_];walk_at "rd";obtain ⟨hy1,hy2⟩:=dw n;have hy0:=eJ n;rw [fc (yearOf n) hy0,<-qW] at hy2;have ed:dateOf n=monthFrom 11 (yearOf n) 1 (n - beforeYear (yearOf n)):=rfl;generalize yearOf n=y at hy0 hy1 hy2 ed ⊢;refine lE (λf σ' H'=>H'=H/\∃m r:Nat,σ'=[some (.int n),some (.int y),some (.int r),some (.int m)]/\1<=m/\m+f=12/\monthFrom f y m r=dateOf n/\beforeMonth y m+r<beforeMonth y 13) (m0:=11) #[rfl,1,n - beforeYear y,by rw [Int.ofNat_sub hy1];rfl,by omega,by omega,ed.symm,by rw [fe];omega] ?_;rintro f σ' H' ⟨rfl,m,r,rfl,h1,hf,em,hb⟩;walk_at "rd";refine #[y,m,rfl,h1,by omega,?_];walk_at "rd";by_cases c:monthDays y m<=r
  .rw [if_pos (by omega)];have hf0:0<f:=by
    rcases Nat.eq_zero_or_pos f with z|z
    .exfalso;have e12:m=12:=by omega
     subst e12;rw [show (13:Nat)=12+1 from rfl,dh y 12 (by omega)] at hb;omega
    .exact z
   obtain ⟨f',rfl⟩:∃f',f=f'+1:=#[f - 1,by omega];refine #[λσ' H''=>H''=H'/\σ'=[some (.int n),some (.int y),some (.int (r - monthDays y m:Nat)),some (.int (m+1:Nat))],?_,?_]
   .rintro σ' H'' ⟨rfl,rfl⟩;exact #[f',by omega,rfl,m+1,r - monthDays y m,rfl,by omega,by omega,by rw [<-em,lJ f' y m r c],by rw [dh y m h1];omega]
   .refine #[y,m,rfl,h1,by omega,?_];walk_at "rd";exact #[by rw [Int.ofNat_sub c],by simp]
  .rw [if_neg (by omega)];rw [<-em,iw f y m r c] at k;exact #[by decide,λp hp=>by simpa using k p hp]
theorem dI:al ["day","count","told","months","year","month"] ["day","count"] (ah (top 13)):=by ext
noncomputable def rP:Sp:=Jf λ(n k:Nat) vs H Q _=>vs=[.int n,.int k]/\∀p,H p=none->Q (.int (addMonths n k)) (upd H p (.tup [.int (dateOf n).y,.int (dateOf n).m,.int (dateOf n).d]))
theorem k_ (T:Tx):FO d8 4 "months_later" ["day","count"] rP:=by
 refine T.sF.g dI (by ext) λ_ _ _ _ _ H vs Q E hr h=>?_
 .obtain ⟨n,k,rfl,h⟩:=h;exists (aa (bt 2 dI.nd (fW (oj T) hr.m (aV (pv 0))))
   (aa (bt 3 dI.nd (az aP (az cq (az aP (az ip ag (k9 (pv 2) ag)) (k9 (pv 2) ag)) ag) (pv 1)))
   (aa (bt 4 dI.nd (az eI (pv 3) ag))
   (aa (bt 5 dI.nd (az aP (az fM (pv 3) ag) ag))
   (ac (am (fW (fB T) hr.m (dH (pv 4) (pv 5) (aJ (oU rfl) (by rfl) T.zo Uj (cz (k9 (pv 2) ag) (fW (a_ T) hr.m (cz (pv 4) (pv 5)))))))))))))
  walk_at "rd";refine #[n,rfl,λp hp=>?_];have hT:=ae (H:=H) (a:=p) (o:=.tup [.int (dateOf n).y,.int (dateOf n).m,.int (dateOf n).d]);walk_at "ro";refine #[_,ij.of hT,_,rfl,_,rfl,_,ij.of hT,_,rfl,_,rfl,_,ij.of hT,_,rfl,?_];obtain ⟨a1,a2,a3,a4,a5,a6⟩:=lL n;have hy:=eJ n;rw [<-a1] at hy a5;have e1:((12:Int)*(dateOf n).y+(dateOf n).m - 1+k)/12=(((dateOf n).y+((dateOf n).m - 1+k)/12:Nat):Int):=by omega
  have e2:((12:Int)*(dateOf n).y+(dateOf n).m - 1+k)%12+1=((((dateOf n).m - 1+k)%12+1:Nat):Int):=by omega
  rw [e1,e2];generalize hY:(dateOf n).y+((dateOf n).m - 1+k)/12=Y;generalize hM:((dateOf n).m - 1+k)%12+1=M;refine #[Y,M,rfl,by omega,by omega,?_];walk_at "rd";refine #[Y,M,min (dateOf n).d (monthDays Y M),?_,by omega,by omega,by omega,?_,?_]
  .have:(if ((monthDays Y M:Nat):Int)<((dateOf n).d:Int) then ((monthDays Y M:Nat):Int) else ((dateOf n).d:Int))=((min (dateOf n).d (monthDays Y M):Nat):Int):=by split<;>omega
   rw [this]
  .have:=kq Y M;omega
  .have e3:addMonths n k=dayOf ⟨Y,M,min (dateOf n).d (monthDays Y M)⟩:=by unfold addMonths;dsimp only;rw [hY,hM]
   rw [<-e3];exact h p hp
theorem pb:al ["day","told"] ["day"] (ah (top 14)):=by ext
noncomputable def yA:Sp:=yj λ(n:Nat) vs H Q _=>vs=[.int n]/\∀p,H p=none->Q (.int (monthEnd n)) (upd H p (.tup [.int (dateOf n).y,.int (dateOf n).m,.int (dateOf n).d]))
theorem yB (T:Tx):FO d8 4 "month_end" ["day"] yA:=by
 refine T.zr.g pb (by ext) λ_ _ _ _ _ H vs Q E hr h=>?_
 .obtain ⟨n,rfl,h⟩:=h;exists (aa (bt 1 pb.nd (fW (oj T) hr.m (aV (pv 0))))
   (ac (am (az cq (az aP (pv 0) (fW (a_ T) hr.m (cz (k9 (pv 1) ag) (k9 (pv 1) ag)))) (k9 (pv 1) ag)))))
  walk_at "rd";refine #[n,rfl,λp hp=>?_];have hT:=ae (H:=H) (a:=p) (o:=.tup [.int (dateOf n).y,.int (dateOf n).m,.int (dateOf n).d]);walk_at "ro";obtain ⟨a1,a2,a3,a4,a5,a6⟩:=lL n;rw [<-a1] at a5;refine #[_,ij.of hT,_,rfl,_,ij.of hT,_,rfl,(dateOf n).y,(dateOf n).m,rfl,a2,a3,?_];walk_at "ro";refine #[_,ij.of hT,_,rfl,_,rfl,?_];have e:((n:Int)+(monthDays (dateOf n).y (dateOf n).m:Nat)-((dateOf n).d:Nat))=((monthEnd n:Nat):Int):=by rw [AC];omega
  rw [e];exact h p hp
theorem vF:al ["day"] ["day"] (ah (top 15)):=by ext
noncomputable def vG:Sp:=yj λ(n:Nat) vs H Q _=>vs=[.int n]/\Q (.int (weekday n)) H
theorem jp (T:Tx):FO d8 1 "weekday_of" ["day"] vG:=by
 refine T.xk.g vF (by ext) λ_ _ _ _ _ H vs Q E hr h=>?_
 .obtain ⟨n,rfl,k⟩:=h;exists (ac (am (az fM (az aP (pv 0) ag) ag)));walk_at "rd";exact k
theorem rQ:al ["weekday","day"] ["weekday","day"] (ah (top 16)):=by ext
noncomputable def rR:Sp:=Jf λ(v n:Nat) vs H Q _=>vs=[.int v,.int n]/\v<7/\Q (.int (onOrAfter v n)) H
theorem gW (T:Tx):FO d8 2 "weekday_from" ["weekday","day"] rR:=by
 refine T.sI.g rQ (by ext) λ_ _ _ _ _ H vs Q E hr h=>?_
 .obtain ⟨v,n,rfl,h1,k⟩:=h;exists (ac (am (az aP (pv 1) (az fM (az cq (pv 0) (fW (jp T) hr.m (aV (pv 1)))) ag))));walk_at "rd";refine #[n,rfl,?_];walk_at "rd";have e:((onOrAfter v n:Nat):Int)=(n:Int)+((v:Int)-(weekday n:Int))%7:=by unfold onOrAfter weekday;omega
  rw [e] at k;exact k
theorem bO:al ["year","a","b","c","g","h","l","m","s"] ["year"] (ah (top 17)):=by ext
noncomputable def ud:Sp:=yj λ(y:Nat) vs H Q _=>vs=[.int y]/\2000<=y/\y<=3000/\Q (.int (easter y)) H
theorem lV (T:Tx):FO d8 4 "moon_sunday" ["year"] ud:=by
 refine T.u4.g bO (by ext) λ_ _ _ _ _ H vs Q E hr h=>?_
 .obtain ⟨y,rfl,h1,h2,k⟩:=h;exists (aa (bt 1 bO.nd (az fM (pv 0) ag))
   (aa (bt 2 bO.nd (az eI (pv 0) ag))
   (aa (bt 3 bO.nd (az fM (pv 0) ag))
   (aa (bt 4 bO.nd (az eI (az aP (az cq (pv 2) (az eI (az aP (pv 2) ag) ag)) ag) ag))
   (aa (bt 5 bO.nd (az fM (az cq (az cq (az aP (az aP (az ip ag (pv 1)) (pv 2)) ag) (az eI (pv 2) ag)) (pv 4)) ag))
   (aa (bt 6 bO.nd (az fM (az cq (az cq (az aP (az aP ag (az ip ag (az fM (pv 2) ag))) (az ip ag (az eI (pv 3) ag))) (pv 5)) (az fM (pv 3) ag)) ag))
   (aa (bt 7 bO.nd (az eI (az aP (az aP (pv 1) (az ip ag (pv 5))) (az ip ag (pv 6))) ag))
   (aa (bt 8 bO.nd (az cq (az aP (az aP (pv 5) (pv 6)) ag) (az ip ag (pv 7))))
   (ac (am (fW (fB T) hr.m (dH (pv 0) (az eI (pv 8) ag) (az aP (az fM (pv 8) ag) ag)))))))))))))
  walk_at "rd";obtain ⟨a,ha⟩:∃a:Nat,a=y%19:=#[_,rfl];obtain ⟨b,hb⟩:∃b:Nat,b=y/100:=#[_,rfl];obtain ⟨c,hc⟩:∃c:Nat,c=y%100:=#[_,rfl];obtain ⟨g,hg⟩:∃g:Nat,g=(b -(b+8)/25+1)/3:=#[_,rfl];obtain ⟨h,hh⟩:∃h:Nat,h=(19*a+b+15 - b/4 - g)%30:=#[_,rfl];obtain ⟨l,hl⟩:∃l:Nat,l=(32+2*(b%4)+2*(c/4)- h - c%4)%7:=#[_,rfl];obtain ⟨m,hm⟩:∃m:Nat,m=(a+11*h+22*l)/451:=#[_,rfl];obtain ⟨t,ht⟩:∃t:Nat,t=h+l+114 - 7*m:=#[_,rfl];have ek:easter y=dayOf ⟨y,t/31,t%31+1⟩:=by unfold easter;simp only;rw [<-ha,<-hb,<-hc,<-hg,<-hh,<-hl,<-hm,<-ht]
  have bb:20<=b/\b<=30:=by omega
  have bc:c<100:=by omega
  have ea:(y:Int)%19=a:=by omega
  have eb:(y:Int)/100=b:=by omega
  have ec:(y:Int)%100=c:=by omega
  have ba:a<19:=by omega
  clear ha hb hc;have eg:((b:Int)-((b:Int)+8)/25+1)/3=g:=by omega
  have eh:(19*(a:Int)+b+15 -(b:Int)/4 - g)%30=h:=by omega
  have bh:h<30:=by omega
  clear hg hh;have el:(32+2*((b:Int)%4)+2*((c:Int)/4)- h -(c:Int)%4)%7=l:=by omega
  have bl:l<7:=by omega
  have em:((a:Int)+11*(h:Int)+22*(l:Int))/451=m:=by omega
  have bm:m<=1:=by omega
  have et:(h:Int)+l+114 - 7*(m:Int)=t:=by omega
  rw [ea,eb,ec,eg,eh,el,em,et];rw [ek] at k;exact #[y,t/31,t%31+1,by simp,h1,by omega,by omega,by omega,k]
end
section
theorem E1:al ["number","low","high"] ["number","low","high"] (ah (top 26)):=by ext
noncomputable def E3 (c:Cl):Sp:=Fu λ(n lo hi:Int) vs H Q E=>vs=[.int n,.int lo,.int hi]/\((lo<=n/\n<=hi)->Q (.int n) H)/\(¬(lo<=n/\n<=hi)->E (.ref c.a8) none H)
theorem bE (T:Tx):FO (cf P w) 1 "within" ["number","low","high"] (E3 c):=by
 refine T.Fx.gX E1 (by ext) λ_ _ _ _ _ H vs Q E hr h=>?_
 .obtain ⟨n,lo,hi,rfl,h1,h2⟩:=h;exists (aa (aL (PW.pt (nh (aA sZ (pv 0) (pv 1) (aE _)) (jf (aA iP (pv 0) (pv 2) (aE _))))) (ac (bw newX rfl rfl T.m_ T.ja)) aC)
   (ac (am (pv 0))))
  walk_at "rd";by_cases c1:n<lo
  .rw [if_pos c1];exact h2 λz=>by omega
  .rw [if_neg c1];by_cases c2:hi<n
   .rw [if_pos c2];exact h2 λz=>by omega
   .rw [if_neg c2];exact h1 #[by omega,by omega]
theorem AN:al ["day"] ["day"] (ah (top 27)):=by ext
noncomputable def AO (c:Cl):Sp:=yj λ(n:Nat) vs H Q E=>vs=[.int n]/\(n<=LAST->Q (.int n) H)/\(LAST<n->E (.ref c.ln) none H)
theorem lW (T:Tx):FO (cf P w) 1 "reckoned" ["day"] (AO c):=by
 refine T.BQ.gX AN (by ext) λ_ _ _ _ _ H vs Q E hr h=>?_
 .obtain ⟨n,rfl,h1,h2⟩:=h;unfold LAST at h1 h2;exists (aa (aL (aA iP (pv 0) (gI 182621 T.mM rfl) (aE _)) (ac (bw newX rfl rfl T.oz T.jD)) aC)
   (ac (am (pv 0))))
  walk_at "rd";by_cases c1:(182621:Int)<(n:Int)
  .rw [if_pos c1];exact h2 (by omega)
  .rw [if_neg c1];exact h1 (by omega)
theorem AQ:al ["number"] ["number"] (ah (top 30)):=by ext
noncomputable def AR (c:Cl):Sp:=yj λ(n:Int) vs H Q E=>vs=[.int n]/\((0<=n/\n<=146096)->Q (.int n) H)/\(¬(0<=n/\n<=146096)->E (.ref c.a8) none H)
theorem aZ (T:Tx):FO (cf P w) 2 "told_day" ["number"] (AR c):=by
 refine T.BR.gX AQ (by ext) λ_ _ _ _ _ H vs Q E hr h=>?_
 .obtain ⟨n,rfl,h1,h2⟩:=h;exists (ac (am (bK (bE T) hr.m (dH (pv 0) ag (gI 146096 T.kX rfl)))));walk_at "rd";exact #[_,_,_,rfl,h1,h2]
theorem ol:al ["number","first","most"] ["number","first","most"] (ah (top 31)):=by ext
noncomputable def om (c:Cl):Sp:=Fu λ(n first most:Int) vs H Q E=>vs=[.int n,.int first,.int most]/\((0<=n/\n<=146096/\first<=n/\n<=first+most)->Q (.int n) H)/\(¬(0<=n/\n<=146096/\first<=n/\n<=first+most)->E (.ref c.a8) none H)
theorem cJ (T:Tx):FO (cf P w) 3 "told_day_behind" ["number","first","most"] (om c):=by
 refine T.oA.gX ol (by ext) λ_ _ _ _ _ H vs Q E hr h=>?_
 .obtain ⟨n,first,most,rfl,h1,h2⟩:=h;exists (ac (am (bK (bE T) hr.m (dH (bK (aZ T) hr.m (aV (pv 0))) (pv 1) (az aP (pv 1) (pv 2))))));walk_at "rd";refine #[n,rfl,λq=>?_,λq=>h2 λz=>q #[z.1,z.2.1]];walk_at "rd";exact #[_,_,_,rfl,λz=>h1 #[q.1,q.2,z.1,z.2],λz=>h2 λy=>z #[y.2.2.1,y.2.2.2]]
theorem yC:al ["number"] ["number"] (ah (top 32)):=by ext
noncomputable def yD (c:Cl):Sp:=yj λ(n:Int) vs H Q E=>vs=[.int n]/\((2000<=n/\n<=2399)->Q (.int n) H)/\(¬(2000<=n/\n<=2399)->E (.ref c.a8) none H)
theorem kE (T:Tx):FO (cf P w) 2 "told_year" ["number"] (yD c):=by
 refine T.zt.gX yC (by ext) λ_ _ _ _ _ H vs Q E hr h=>?_
 .obtain ⟨n,rfl,h1,h2⟩:=h;exists (ac (am (bK (bE T) hr.m (dH (pv 0) (gI 2000 T.fE rfl) (gI 2399 T.gc rfl)))));walk_at "rd";exact #[_,_,_,rfl,h1,h2]
inductive cC {α β:Type} (R:α->β->Prop):List α->List β->Prop
 |nil:cC R [] []
 |cons {a:α} {b:β} {l:List α} {m:List β} (h:R a b) (t:cC R l m):cC R (a::l) (b::m)
theorem cC.length {α β:Type} {R:α->β->Prop}:∀{l:List α} {m:List β},cC R l m->l.length=m.length
 |_,_,.nil=>rfl
 |_,_,.cons _ t=>congrArg (·+1) t.length
theorem cC.get {α β:Type} {R:α->β->Prop}:∀{l:List α} {m:List β},cC R l m->∀{i:Nat} {a:α},l[i]? =some a->∃b,m[i]? =some b/\R a b
 |_,_,.nil,i,a,h=>by simp at h
 |_,_,.cons (b:=b) r t,0,a,h=>#[b,rfl,by have:_=a:=Sd h;subst this;exact r]
 |_,_,.cons r t,i+1,a,h=>t.get (i:=i) (a:=a) h
theorem cC.imp {α β:Type} {R S:α->β->Prop} (f:∀a b,R a b->S a b):∀{l:List α} {m:List β},cC R l m->cC S l m
 |_,_,.nil=>.nil
 |_,_,.cons h t=>.cons (f _ _ h) (t.imp f)
theorem cC.snoc {α β:Type} {R:α->β->Prop} {a:α} {b:β} (h:R a b):∀{l:List α} {m:List β},cC R l m->cC R (l++[a]) (m++[b])
 |_,_,.nil=>.cons h .nil
 |_,_,.cons r t=>.cons r (t.snoc h)
theorem take_snoc {α:Type}:∀{l:List α} {i:Nat} {x:α},l[i]? =some x->l.take (i+1)=l.take i++[x]
 |[],i,x,h=>by simp at h
 |a::l,0,x,h=>by have e:a=x:=Sd h;subst e;rfl
 |a::l,i+1,x,h=>by have ih:=take_snoc (l:=l) (i:=i) (x:=x) h;show a::l.take (i+1)=a::l.take i++[x];rw [ih];rfl
def AS (H:Hp) (p:KE) (x:Nat×Nat):Prop:=H p=some (.tup [.int x.1,.int x.2])
def kF (H:Hp) (a:KE) (l:List (Nat×Nat)):Prop:=∃ps:List KE,H a=some (.lst (ps.map V.ref))/\cC (AS H) ps l
theorem fg {α:Type} {f:α->V} {l:List α} {i:Nat} (h:(l.map f)[i]? =some y):∃a,l[i]? =some a/\y=f a:=by
 rw [SO] at h;cases e:l[i]? with
 |none=>rw [e] at h;cases h
 |some a=>rw [e] at h;exact #[a,rfl,(Sd h).symm]
theorem cmin (a b:Nat):min (a:Int) b=((min a b:Nat):Int):=by omega
theorem cmax (a b:Nat):max (a:Int) b=((max a b:Nat):Int):=by omega
theorem fP:al ["stretches","first","last","count","stretch"] ["stretches","first","last"] (ah (top 41)):=by ext
noncomputable def ue:Sp:=Au λ(a:KE) (l:List (Nat×Nat)) (m n:Nat) vs H Q _=>vs=[.ref a,.int m,.int n]/\kF H a l/\Q (.int (Vbptaa.still l m n)) H
theorem uf (T:Tx):FO d8 1 "count_still" ["stretches","first","last"] ue:=by
 refine T.u_.g fP (by ext) λ_ _ _ _ _ H vs Q E hr h=>?_
 .obtain ⟨a,l,m,n,rfl,⟨ps,ha,hp⟩,k⟩:=h;exists (aa (bt 3 fP.nd ag)
   (aa (cp Tb rfl (cb (pv 0)) (bg (i:=4) fP.nd rfl (by first|exact Tk rfl|exact Tp rfl)) (ac (j_ (i:=3) fP.nd rfl (by first|exact Tk rfl|exact Tp rfl) (aJ (ie rfl) (by rfl) T.m9 Tj (cz ag (az aP (az cq (aJ (oU rfl) (by rfl) T.zo Uj (cz (k9 (pv 4) ag) (pv 2))) (aJ (ie rfl) (by rfl) T.m9 Tj (cz (k9 (pv 4) ag) (pv 1)))) ag))) nV)))
   (ac (am (pv 3)))))
  rfl';refine bR (xs:=ps.map V.ref) (λi σ' H'=>H'=H/\∃v,σ'=[some (.ref a),some (.int m),some (.int n),some (.int (Vbptaa.still (l.take i) m n)),v]) #[rfl,none,rfl] (λi σ' H' _ h=>by obtain ⟨rfl,_⟩:=h;exact cB.of ha) ?_ ?_
  .rintro i y σ' H' hy ⟨rfl,v,rfl⟩;obtain ⟨p,hpi,rfl⟩:=fg hy;obtain ⟨x,hx,hR⟩:=hp.get hpi;rfl';refine #[rfl,_,congrArg (λz:Int=>[some (V.ref a),some (.int m),some (.int n),some (.int z),some (.ref p)]) ?_];rw [take_snoc hx,CO,cmin,cmax];generalize min x.2 n=u;generalize max x.1 m=v;generalize Vbptaa.still (l.take i) m n=z;omega
  .rintro σ' H' ⟨rfl,v,rfl⟩;rfl';rw [w4,hp.length,SX];exact k
theorem kG:al ["stretches","first","end","stretch"] ["stretches","first","end"] (ah (top 42)):=by ext
noncomputable def yE:Sp:=Au λ(a:KE) (l:List (Nat×Nat)) (m n:Nat) vs H Q _=>vs=[.ref a,.int m,.int n]/\kF H a l/\Apart l/\m<n/\Q (.int (l.foldl (gf m) n:Nat)) H
theorem yF (T:Tx):FO d8 1 "made_good" ["stretches","first","end"] yE:=by
 refine T.zx.g kG (by ext) λ_ _ _ _ _ H vs Q E hr h=>?_
 .obtain ⟨a,l,m,n,rfl,⟨ps,ha,hp⟩,hap,hmn,k⟩:=h;exists (aa (cp Tb rfl (cb (pv 0)) (bg (i:=3) kG.nd rfl (by first|exact Tk rfl|exact Tp rfl)) (ac (aL (aA wv (k9 (pv 3) ag) (pv 2) (aE _)) (ac (j_ (i:=2) kG.nd rfl (by first|exact Tk rfl|exact Tp rfl) (aJ (ie rfl) (by rfl) T.m9 Tj (cz ag (az cq (k9 (pv 3) ag) (aJ (ie rfl) (by rfl) T.m9 Tj (cz (az cq (k9 (pv 3) ag) ag) (pv 1)))))) nV)) aC)))
   (ac (am (pv 2))))
  rfl';refine bR (xs:=ps.map V.ref) (λi σ' H'=>H'=H/\m<(l.take i).foldl (gf m) n/\∃v,σ'=[some (.ref a),some (.int m),some (.int ((l.take i).foldl (gf m) n:Nat)),v]) #[rfl,hmn,none,rfl] (λi σ' H' _ h=>by obtain ⟨rfl,_⟩:=h;exact cB.of ha) ?_ ?_
  .rintro i y σ' H' hy ⟨rfl,hm,v,rfl⟩;obtain ⟨p,hpi,rfl⟩:=fg hy;obtain ⟨x,hx,hR⟩:=hp.get hpi;have hxl:=hap.le x (SE hx);have hstep:=AG m _ x hm hxl;have hge:=EV m ((l.take i).foldl (gf m) n) x;have e:(l.take (i+1)).foldl (gf m) n=gf m ((l.take i).foldl (gf m) n) x:=by rw [take_snoc hx,List.foldl_append];rfl
   rfl';clear hap hpi hy;by_cases c1:(x.1:Int)<=(((l.take i).foldl (gf m) n:Nat):Int)
   .rw [if_pos c1];rw [if_pos c1] at hstep;rfl';refine #[rfl,by omega,_,congrArg (λz:Int=>[some (V.ref a),some (.int m),some (.int z),some (.ref p)]) ?_];rw [e,hstep]
   .rw [if_neg c1];rw [if_neg c1] at hstep;rfl';exact #[rfl,by omega,_,by rw [e,hstep];rfl]
  .rintro σ' H' ⟨rfl,hm,v,rfl⟩;rfl';rw [w4,hp.length,SX];exact k
theorem yG:al ["day","begin","stretches"] ["day","begin","stretches"] (ah (top 48)):=by ext
noncomputable def yH:Sp:=Au λ(a:KE) (l:List (Nat×Nat)) (d b:Nat) vs H Q _=>vs=[.int d,.int b,.ref a]/\kF H a l/\Apart l/\Q (.int (Vbptaa.going l b d:Nat)) H
theorem yI (T:Tx):FO d8 2 "going_day" ["day","begin","stretches"] yH:=by
 refine T.zy.g yG (by ext) λ_ _ _ _ _ H vs Q E hr h=>?_
 .obtain ⟨a,l,d,b,rfl,hS,hap,k⟩:=h;exists (aa (aL (aA wv (pv 0) (pv 1) (aE _)) (ac (am (pv 0))) aC)
   (ac (am (fW (yF T) hr.m (dH (pv 2) (pv 1) (pv 0))))))
  walk_at "rd";rw [G1] at k;by_cases c1:(d:Int)<=b
  .rw [if_pos c1];rw [if_pos (by omega)] at k;exact k
  .rw [if_neg c1];rw [if_neg (by omega)] at k;exact #[a,l,b,d,rfl,hS,hap,by omega,k]
theorem aj.upd (h:H p=none):aj H (upd H p o):=λb u e=>by rw [ai (ak e h)];exact e
structure KL (H:Hp) (q:KE) (H':Hp) (L:List (Nat×Nat)) (qs:List KE):Prop where
 same:aj H H'
 new:H q=none
 at_:H' q=some (.lst (qs.map V.ref))
 vH:cC (AS H') qs L
theorem KL.start (h:H q=none):KL H q (upd H q (.lst [])) [] []:=#[aj.upd h,h,ae,.nil]
theorem KL.app {L:List (Nat×Nat)} (k:KL H q H' L qs) (hp:H' p=none) (x:Nat×Nat):KL H q (upd (upd H' p (.tup [.int x.1,.int x.2])) q (.lst (qs.map V.ref++[.ref p]))) (L++[x]) (qs++[p]):=by
 have npq:p≠q:=λe=>by rw [e,k.at_] at hp;cases hp
 refine #[λb o e=>?_,k.new,?_,?_]
 .rw [ai (ak e k.new),ai (ak (k.same _ _ e) hp)];exact k.same _ _ e
 .rw [ae,Sw];rfl
 .refine cC.snoc ?_ (k.vH.imp λa b h=>?_)
  .show upd _ q _ p=_;rw [ai npq,ae]
  .show upd _ q _ a=_;have h':H' a=some (.tup [.int b.1,.int b.2]):=h;rw [ai (aX h' k.at_ nofun),ai (ak h' hp)];exact h'
theorem KL.get {L:List (Nat×Nat)} (k:KL H q H' L qs) (h:H p=some o):H' p=some o:=k.same _ _ h
theorem KL.put {L:List (Nat×Nat)} (k:KL H q H' L qs) (hp:H' p=none):upd H' p o q=some (.lst (qs.map V.ref)):=by rw [ai (ak k.at_ hp)];exact k.at_
theorem AT (a b:Nat):∀l:List (Nat×Nat),(Vbptaa.gone a b l).length<=2*l.length
 |[]=>Sf _
 |x::l=>by have:=AT a b l;rw [wT];simp only [Sq,Si];split<;>split<;>simp<;>omega
theorem E4 (a b:Nat) (l:List (Nat×Nat)) (x:Nat×Nat):Vbptaa.gone a b (l++[x])=Vbptaa.gone a b l++((if x.1<a then [(x.1,min x.2 (a - 1))] else [])++(if b<x.2 then [(max x.1 (b+1),x.2)] else [])):=by unfold Vbptaa.gone;rw [List.flatMap_append];simp only [List.flatMap_cons,List.flatMap_nil,Td]
theorem aI {n:Nat} (h:n<=100000):n<sizeLine:=Nat.lt_of_le_of_lt h (by decide)
theorem Hg {n:Nat} (h:n<=100000):n<=sizeLine:=T6 (aI h)
end
section
theorem lX:al ["self","month","date"] ["self","month","date"] (ah (inClass (top 54) 0)):=by ext
noncomputable def AU (c:Cl):Sp:=Au λ(p dx:KE) (m d:Nat) vs H Q _=>vs=[.ref p,.int m,.int d]/\H p=some (.ins c.cF dx [])/\Q .bZ (upd H p (.ins c.cF dx [("month",.int m),("date",.int d)]))
theorem rf (T:Tx):KO d8 1 c.cF "DateRule" ["self","month","date"] (AU c):=by
 refine T.BW.g T.zB lX (by ext) λ_ _ _ _ _ H vs Q E hr h=>?_
 .obtain ⟨p,dx,m,d,rfl,hp,k⟩:=h;exists (aa (a9 (pv 0) (pv 1) rfl)
   (ac (a9 (pv 0) (pv 2) rfl)))
  walk_at "rd";refine #[_,_,_,hp,T.dX,T.fF,by decide,?_];refine #[_,_,_,ae,T.dX,T.gd,(by show 1<1000;decide),?_];rw [bX];exact k
theorem pc:al ["self","year"] ["self","year"] (ah (inClass (top 54) 1)):=by ext
noncomputable def iX (c:Cl):Sp:=Av λ(p dx:KE) (m d y:Nat) vs H Q _=>vs=[.ref p,.int y]/\H p=some (.ins c.cF dx [("month",.int m),("date",.int d)])/\2000<=y/\1<=m/\m<=12/\1<=d/\
 Q (if d<=monthDays y m then .int (dayOf #[y,m,d]) else .bZ) H
theorem iY (T:Tx):MO d8 4 c.cF "falls" ["self","year"] (iX c):=by
 refine T.pT.g T.dX pc (by ext) λ_ _ _ _ _ H vs Q E hr h=>?_
 .obtain ⟨p,dx,m,d,y,rfl,hp,h1,h2,h3,h4,k⟩:=h;exists (aa (aL (aA iP (aq (pv 0) rfl) (fW (a_ T) hr.m (cz (pv 1) (aq (pv 0) rfl))) (aE _)) (ac (am dv)) aC)
   (ac (am (fW (fB T) hr.m (dH (pv 1) (aq (pv 0) rfl) (aq (pv 0) rfl))))))
  walk_at "rd";refine #[_,_,_,hp,T.dX,T.gd,_,rfl,_,_,_,hp,T.dX,T.fF,_,rfl,y,m,rfl,h2,h3,?_];walk_at "rd";by_cases c1:d<=monthDays y m
  .rw [if_neg (by omega)];rw [if_pos c1] at k;exact #[_,_,_,hp,T.dX,T.fF,_,rfl,_,_,_,hp,T.dX,T.gd,_,rfl,y,m,d,rfl,h1,h2,h3,h4,k]
  .rw [if_pos (by omega)];rw [if_neg c1] at k;exact k
theorem kH:al ["self","behind"] ["self","behind"] (ah (inClass (top 55) 0)):=by ext
noncomputable def vI (c:Cl):Sp:=Fu λ(p dx:KE) (va:V) vs H Q _=>vs=[.ref p,va]/\H p=some (.ins c.cG dx [])/\Q .bZ (upd H p (.ins c.cG dx [("behind",va)]))
theorem jq (T:Tx):KO d8 1 c.cG "EasterRule" ["self","behind"] (vI c):=by
 refine T.xl.g T.vf kH (by ext) λ_ _ _ _ _ H vs Q E hr h=>?_
 .obtain ⟨p,dx,va,rfl,hp,k⟩:=h;exists (ac (a9 (pv 0) (pv 1) rfl));walk_at "rd";refine #[_,_,_,hp,T.jc,T.gy,(by show 0<1000;decide),?_];exact k
theorem mU:al ["self","place","weekday","month"] ["self","place","weekday","month"] (ah (inClass (top 56) 0)):=by ext
noncomputable def C8 (c:Cl):Sp:=Av λ(p dx:KE) (va:V) (vb:V) (vc:V) vs H Q _=>vs=[.ref p,va,vb,vc]/\H p=some (.ins c.cW dx [])/\Q .bZ (upd H p (.ins c.cW dx [("place",va),("weekday",vb),("month",vc)]))
theorem C9 (T:Tx):KO d8 1 c.cW "KthRule" ["self","place","weekday","month"] (C8 c):=by
 refine T.Eh.g T.BX mU (by ext) λ_ _ _ _ _ H vs Q E hr h=>?_
 .obtain ⟨p,dx,va,vb,vc,rfl,hp,k⟩:=h;exists (aa (a9 (pv 0) (pv 1) rfl)
   (aa (a9 (pv 0) (pv 2) rfl)
   (ac (a9 (pv 0) (pv 3) rfl))))
  walk_at "rd";refine #[_,_,_,hp,T.du,T.jF,(by show 0<1000;decide),?_];refine #[_,_,_,ae,T.du,T.io,(by show 1<1000;decide),?_];rw [bX];refine #[_,_,_,ae,T.du,T.eE,(by show 2<1000;decide),?_];rw [bX];exact k
theorem lY:al ["self","weekday","month"] ["self","weekday","month"] (ah (inClass (top 57) 0)):=by ext
noncomputable def AV (c:Cl):Sp:=Au λ(p dx:KE) (va:V) (vb:V) vs H Q _=>vs=[.ref p,va,vb]/\H p=some (.ins c.ck dx [])/\Q .bZ (upd H p (.ins c.ck dx [("weekday",va),("month",vb)]))
theorem AW (T:Tx):KO d8 1 c.ck "LastRule" ["self","weekday","month"] (AV c):=by
 refine T.BY.g T.zC lY (by ext) λ_ _ _ _ _ H vs Q E hr h=>?_
 .obtain ⟨p,dx,va,vb,rfl,hp,k⟩:=h;exists (aa (a9 (pv 0) (pv 1) rfl)
   (ac (a9 (pv 0) (pv 2) rfl)))
  walk_at "rd";refine #[_,_,_,hp,T.fA,T.g6,(by show 0<1000;decide),?_];refine #[_,_,_,ae,T.fA,T.fG,(by show 1<1000;decide),?_];rw [bX];exact k
theorem pd:al ["self","rule","moved","years"] ["self","rule","moved","years"] (ah (inClass (top 59) 0)):=by ext
noncomputable def Hh (c:Cl):Sp:=Av λ(p dx:KE) (va:V) (vb:V) (vc:V) vs H Q _=>vs=[.ref p,va,vb,vc]/\H p=some (.ins c.Feast dx [])/\Q .bZ (upd H p (.ins c.Feast dx [("rule",va),("moved",vb),("years",vc)]))
theorem pf (T:Tx):KO d8 1 c.Feast "Feast" ["self","rule","moved","years"] (Hh c):=by
 refine T.HS.g T.Fz pd (by ext) λ_ _ _ _ _ H vs Q E hr h=>?_
 .obtain ⟨p,dx,va,vb,vc,rfl,hp,k⟩:=h;exists (aa (a9 (pv 0) (pv 1) rfl)
   (aa (a9 (pv 0) (pv 2) rfl)
   (ac (a9 (pv 0) (pv 3) rfl))))
  walk_at "rd";refine #[_,_,_,hp,T.eW,T.jd,(by show 0<1000;decide),?_];refine #[_,_,_,ae,T.eW,T.ls,(by show 1<1000;decide),?_];rw [bX];refine #[_,_,_,ae,T.eW,T.fH,(by show 2<1000;decide),?_];rw [bX];exact k
noncomputable def PP (H:Hp) (x dx C:KE) (fs:List (Str×V)):Hp:=upd (upd H dx (.own x)) x (.ins C dx fs)
theorem jr (H:Hp) (x dx C:KE) (fs:List (Str×V)):upd (upd (upd H dx (.own x)) x (.ins C dx [])) x (.ins C dx fs)=PP H x dx C fs:=bX
theorem js:PP H x dx C fs x=some (.ins C dx fs):=ae
theorem aj.mk (h1:H x=none) (h2:H dx=none):aj H (PP H x dx C fs):=λb o e=>by unfold PP;rw [ai (ak e h1),ai (ak e h2)];exact e
theorem lZ:al ["self","weekday","month","date"] ["self","weekday","month","date"] (ah (inClass (top 58) 0)):=by ext
noncomputable def AX (c:Cl):Sp:=Av λ(p dx:KE) (v m d:Nat) vs H Q _=>vs=[.ref p,.int v,.int m,.int d]/\H p=some (.ins c.de dx [])/\
 ∀(H':Hp) (b:KE),(∀x o,H x=some o->x≠p->H' x=some o)->H' p=some (.ins c.de dx [("weekday",.int v),("begin",.ref b)])->(∃bd,H' b=some (.ins c.cF bd [("month",.int m),("date",.int d)]))->Q .bZ H'
theorem AY (T:Tx):KO d8 3 c.de "FromRule" ["self","weekday","month","date"] (AX c):=by
 refine T.BZ.g T.zE lZ (by ext) λ_ _ _ _ _ H vs Q E hr h=>?_
 .obtain ⟨p,dx,v,m,d,rfl,hp,k⟩:=h;exists (aa (a9 (pv 0) (pv 1) rfl)
   (ac (a9 (pv 0) (gF (rf T) hr.m rfl bq (cz (pv 2) (pv 3))) rfl)))
  walk_at "rd";refine #[_,_,_,hp,T.gz,T.g7,(by show 0<1000;decide),λx dx2 nx ndx ne=>?_];refine #[x,dx2,m,d,rfl,ae,rfl,?_];have npx:p≠x:=λe=>by rw [<-e,ae] at nx;cases nx
  have npd:p≠dx2:=λe=>by rw [<-e,ae] at ndx;cases ndx
  refine #[_,dx,[("weekday",.int v)],?_,T.gz,T.iN,(by show 1<1000;decide),?_]
  .rw [ai npx,ai npx,ai npd,ae];rfl
  .refine k _ x (λy o e hy=>?_) ae #[dx2,?_]
   .have e2:upd H p (HO.ins c.de dx [("weekday",.int v)]) y=some o:=by rw [ai hy];exact e
    rw [ai hy,ai (ak e2 nx),ai (ak e2 nx),ai (ak e2 ndx)];exact e2
   .rw [ai (λe=>npx e.symm),ae]
noncomputable def oV:Option Nat->V
 |none=>.bZ
 |some n=>.int n
noncomputable def gH (c:Cl) (H:Hp) (q:KE):When->Prop
 | .fixed m d=>∃dx,H q=some (.ins c.cF dx [("month",.int m),("date",.int d)])
 | .moon off=>∃dx,H q=some (.ins c.cG dx [("behind",.int off)])
 | .nth k v m=>if k=0 then∃dx,H q=some (.ins c.ck dx [("weekday",.int v),("month",.int m)]) else∃dx,H q=some (.ins c.cW dx [("place",.int k),("weekday",.int v),("month",.int m)])
 | .from_ v m d=>∃dx b bd,H q=some (.ins c.de dx [("weekday",.int v),("begin",.ref b)])/\H b=some (.ins c.cF bd [("month",.int m),("date",.int d)])
noncomputable def dQ (x:When) (y:Nat):Option Nat:=match x with
 | .fixed m d=>if d<=monthDays y m then some (dayOf #[y,m,d]) else none
 | .moon off=>some (((easter y:Nat):Int)+off).toNat
 | .nth k w m=>nthDay y k w m
 | .from_ w m d=>if d<=monthDays y m then some (onOrAfter w (dayOf #[y,m,d])) else none
theorem Hi (y m d:Nat):beforeYear y<=dayOf #[y,m,d]:=by unfold dayOf;dsimp only;omega
theorem E5 (y:Nat) (h:2000<=y):80<=easter y:=by
 by_cases e:y=2000
 .subst e;decide+kernel
 .have h1:366<=beforeYear y:=by
   have:=iy 2001 (by decide) (y - 2001);rw [show 2001+(y - 2001)=y from by omega] at this;have e2:beforeYear 2001=366:=by decide+kernel
   omega
  refine SA ?_ (SA h1 ?_)
  .decide
  .unfold easter;exact Hi _ _ _
theorem mV:al ["self","year"] ["self","year"] (ah (inClass (top 55) 1)):=by ext
noncomputable def g8 (c:Cl):Sp:=Au λ(p dx:KE) (off:Int) (y:Nat) vs H Q _=>vs=[.ref p,.int y]/\H p=some (.ins c.cG dx [("behind",.int off)])/\2000<=y/\y<=3000/\ -80<=off/\
 Q (oV (dQ (.moon off) y)) H
theorem mW (T:Tx):MO d8 5 c.cG "falls" ["self","year"] (g8 c):=by
 refine T.nS.g T.jc mV (by ext) λ_ _ _ _ _ H vs Q E hr h=>?_
 .obtain ⟨p,dx,off,y,rfl,hp,h1,h2,h3,k⟩:=h;exists (ac (am (az aP (fW (lV T) hr.m (aV (pv 1))) (aq (pv 0) rfl))));walk_at "rd";refine #[y,rfl,h1,h2,?_];walk_at "rd";refine #[_,_,_,hp,T.jc,T.gy,_,rfl,_,rfl,?_];have:=E5 y h1;have e:oV (dQ (.moon off) y)=V.int (((easter y:Nat):Int)+off):=by show V.int _=V.int _;congr 1;omega
  rw [e] at k;exact k
theorem jT:al ["self","year","day"] ["self","year"] (ah (inClass (top 56) 1)):=by ext
noncomputable def jU (c:Cl):Sp:=J9 λ(p dx:KE) (n v m y:Nat) vs H Q _=>vs=[.ref p,.int y]/\H p=some (.ins c.cW dx [("place",.int n),("weekday",.int v),("month",.int m)])/\2000<=y/\v<7/\1<=n/\n<=5/\1<=m/\m<=12/\
 Q (oV (nthDay y n v m)) H
theorem qA (T:Tx):MO d8 4 c.cW "falls" ["self","year"] (jU c):=by
 refine T.rB.g T.du jT (by ext) λ_ _ _ _ _ H vs Q E hr h=>?_
 .obtain ⟨p,dx,n,v,m,y,rfl,hp,h1,h2,h3,h4,h5,h6,k⟩:=h;exists (aa (bt 2 jT.nd (az aP (fW (gW T) hr.m (cz (aq (pv 0) rfl) (fW (fB T) hr.m (dH (pv 1) (aq (pv 0) rfl) ag)))) (az ip ag (az cq (aq (pv 0) rfl) ag))))
   (aa (aL (aA iP (pv 2) (fW (fB T) hr.m (dH (pv 1) (aq (pv 0) rfl) (fW (a_ T) hr.m (cz (pv 1) (aq (pv 0) rfl))))) (aE _)) (ac (am dv)) aC)
   (ac (am (pv 2)))))
  walk_at "rd";refine #[_,_,_,hp,T.du,T.io,_,rfl,_,_,_,hp,T.du,T.eE,_,rfl,y,m,1,rfl,h1,h5,h6,by decide,?_];walk_at "rd";refine #[v,dayOf #[y,m,1],rfl,h2,?_];walk_at "rd";refine #[_,_,_,hp,T.du,T.jF,_,rfl,_,rfl,?_];refine #[_,_,_,hp,T.du,T.eE,_,rfl,_,_,_,hp,T.du,T.eE,_,rfl,y,m,rfl,h5,h6,?_];have:=kq y m;refine #[y,m,monthDays y m,rfl,h1,h5,h6,by omega,?_];walk_at "rd";have e:nthDay y n v m=if onOrAfter v (dayOf ⟨y,m,1⟩)+7*(n - 1)<=dayOf ⟨y,m,monthDays y m⟩ then some (onOrAfter v (dayOf ⟨y,m,1⟩)+7*(n - 1)) else none:=by unfold nthDay;rw [if_neg (by omega)]
  rw [e] at k;by_cases c1:onOrAfter v (dayOf ⟨y,m,1⟩)+7*(n - 1)<=dayOf ⟨y,m,monthDays y m⟩
  .rw [if_neg (by omega)];rw [if_pos c1] at k;have e2:((onOrAfter v (dayOf ⟨y,m,1⟩):Nat):Int)+7*((n:Int)- 1)=((onOrAfter v (dayOf ⟨y,m,1⟩)+7*(n - 1):Nat):Int):=by omega
   rw [e2];exact k
  .rw [if_pos (by omega)];rw [if_neg c1] at k;exact k
theorem ph:al ["self","year"] ["self","year"] (ah (inClass (top 57) 1)):=by ext
noncomputable def iZ (c:Cl):Sp:=Av λ(p dx:KE) (v m y:Nat) vs H Q _=>vs=[.ref p,.int y]/\H p=some (.ins c.ck dx [("weekday",.int v),("month",.int m)])/\2000<=y/\v<7/\1<=m/\m<=12/\
 Q (oV (nthDay y 0 v m)) H
theorem pi (T:Tx):MO d8 4 c.ck "falls" ["self","year"] (iZ c):=by
 refine T.pU.g T.fA ph (by ext) λ_ _ _ _ _ H vs Q E hr h=>?_
 .obtain ⟨p,dx,v,m,y,rfl,hp,h1,h2,h5,h6,k⟩:=h;exists (ac (am (fW (gW T) hr.m (cz (aq (pv 0) rfl) (fW (fB T) hr.m (dH (pv 1) (aq (pv 0) rfl) (az cq (fW (a_ T) hr.m (cz (pv 1) (aq (pv 0) rfl))) ag)))))));walk_at "rd";refine #[_,_,_,hp,T.fA,T.g6,_,rfl,_,_,_,hp,T.fA,T.fG,_,rfl,_,_,_,hp,T.fA,T.fG,_,rfl,y,m,rfl,h5,h6,?_];walk_at "rd";have:=kq y m;refine #[y,m,monthDays y m - 6,?_,h1,h5,h6,by omega,?_]
  .rw [Int.ofNat_sub (by omega)];rfl
  exact #[v,dayOf #[y,m,monthDays y m - 6],rfl,h2,k]
theorem i3:al ["self","year","day"] ["self","year"] (ah (inClass (top 58) 1)):=by ext
noncomputable def i4 (c:Cl):Sp:=R6 λ(p dx b bd:KE) (v m d y:Nat) vs H Q _=>vs=[.ref p,.int y]/\H p=some (.ins c.de dx [("weekday",.int v),("begin",.ref b)])/\H b=some (.ins c.cF bd [("month",.int m),("date",.int d)])/\2000<=y/\v<7/\1<=m/\m<=12/\1<=d/\
 Q (oV (dQ (.from_ v m d) y)) H
theorem pj (T:Tx):MO d8 5 c.de "falls" ["self","year"] (i4 c):=by
 refine T.pV.g T.gz i3 (by ext) λ_ _ _ _ _ H vs Q E hr h=>?_
 .obtain ⟨p,dx,b,bd,v,m,d,y,rfl,hp,hb,h1,h2,h3,h4,h5,k⟩:=h;exists (aa (bt 2 i3.nd (bJ (aq (pv 0) rfl) (iY T) hr.m bq (aV (pv 1))))
   (aa (aL (aA qt (pv 2) dv (aE _)) (ac (am dv)) aC)
   (ac (am (fW (gW T) hr.m (cz (aq (pv 0) rfl) (pv 2)))))))
  walk_at "rd";refine #[_,_,_,hp,T.gz,T.iN,_,rfl,b,rfl,_,_,hb,rfl,b,bd,m,d,y,rfl,hb,h1,h3,h4,h5,?_];have e:dQ (.from_ v m d) y=if d<=monthDays y m then some (onOrAfter v (dayOf ⟨y,m,d⟩)) else none:=rfl
  rw [e] at k;walk_at "rd";by_cases c1:d<=monthDays y m
  .rw [if_pos c1] at k ⊢;rw [if_neg (by simp)];exact #[_,_,_,hp,T.gz,T.g7,_,rfl,v,dayOf #[y,m,d],rfl,h2,k]
  .rw [if_neg c1] at k ⊢;rw [if_pos (by simp)];exact k
noncomputable def Mm (H:Hp) (y:V):Option (Nat×Nat)->Prop
 |none=>y= .bZ
 |some r=>∃t,y= .ref t/\H t=some (.tup [.int r.1,.int r.2])
def dN (c:Cl) (H:Hp) (p:KE) (f:Feast):Prop:=∃dx q y,H p=some (.ins c.Feast dx [("rule",.ref q),("moved",.bl f.moves),("years",y)])/\gH c H q f.at_/\Mm H y f.years
theorem AZ (f:Feast) (y:Nat):feastDay f y=if (f.years.all λr=>decide (r.1<=y/\y<=r.2))=false then none else dQ f.at_ y:=rfl
theorem rS:al ["self","year"] ["self","year"] (ah (inClass (top 59) 1)):=by ext
noncomputable def rT (c:Cl):Sp:=Fu λ(p:KE) (f:Feast) (y:Nat) vs H Q _=>vs=[.ref p,.int y]/\dN c H p f/\ku (.feast f)/\2000<=y/\y<=3000/\Q (oV (feastDay f y)) H
def Sc (F:KE->List Str->Sp->Prop) (m:Str) (E:XK) (tr:TA) (σ:L2.St) (Q:VK):VK:=λx H=>∃a C dx fs ps sp,x= .ref a/\H a=some (.ins C dx fs)/\fs.lookup m=none/\F C ps sp/\tr σ H (Lv sp x Q E)
theorem eL {F:KE->List Str->Sp->Prop} (h:ta σ H (Sc F m E tr σ Q)):JZ F m E ta tr σ H Q:=h
theorem x9 {F:KE->List Str->Sp->Prop} (h:H p=some (.ins C dx fs)) (l:fs.lookup m=none) (f:F C ps sp) (q:tr σ H (Lv sp (.ref p) Q E)):Sc F m E tr σ Q (.ref p) H:=#[p,C,dx,fs,ps,sp,rfl,h,l,f,q]
theorem rV (T:Tx):MO d8 7 c.Feast "day_in" ["self","year"] (rT c):=by
 refine T.sK.g T.eW rS (by ext) λf _ _ _ _ H vs Q E hr h=>?_
 .obtain ⟨p,f,y,rfl,⟨dx,q,yv,hp,hr1,hy1⟩,ok,h1,h2,k⟩:=h;have rule:(∃C dx fs ps sp,H q=some (.ins C dx fs)/\UB ("falls" :Str) fs=none/\MO d8 6 C "falls" ps sp/\sp [.ref q,.int y] H (λv H'=>H'=H/\v=oV (dQ f.at_ y)) E0/\∀Q',Q' (oV (dQ f.at_ y)) H->sp [.ref q,.int y] H Q' E0):=by
   have okw:=ok.1;cases ew:f.at_ with
   |fixed m d=>
    rw [ew] at hr1 okw;obtain ⟨dxq,hq⟩:=hr1;have all:∀Q':VK,Q' (oV (dQ (.fixed m d) y)) H->iX c [.ref q,.int y] H Q' E0:=λQ' h=>#[q,dxq,m,d,y,rfl,hq,h1,okw.1,okw.2.1,okw.2.2.1,by
     have e:oV (dQ (.fixed m d) y)=if d<=monthDays y m then .int (dayOf ⟨y,m,d⟩) else .bZ:=by unfold dQ;dsimp only;split<;>rfl
     rw [e] at h;exact h]
    exact #[_,_,_,_,_,hq,rfl,(iY T).mono (by decide),all _ #[rfl,rfl],all]
   |moon off=>rw [ew] at hr1 okw;obtain ⟨dxq,hq⟩:=hr1;have all:∀Q':VK,Q' (oV (dQ (.moon off) y)) H->g8 c [.ref q,.int y] H Q' E0:=λQ' h=>#[q,dxq,off,y,rfl,hq,h1,h2,okw.1,h];exact #[_,_,_,_,_,hq,rfl,(mW T).mono (by decide),all _ #[rfl,rfl],all]
   |nth n v m=>
    rw [ew] at hr1 okw;by_cases hn:n=0
    .subst hn;have hr2:∃dx,H q=some (.ins c.ck dx [("weekday",.int v),("month",.int m)]):=by have:=hr1;unfold gH at this;dsimp only at this;rw [if_pos rfl] at this;exact this
     obtain ⟨dxq,hq⟩:=hr2;have all:∀Q':VK,Q' (oV (dQ (.nth 0 v m) y)) H->iZ c [.ref q,.int y] H Q' E0:=λQ' h=>#[q,dxq,v,m,y,rfl,hq,h1,okw.2.1,okw.2.2.1,okw.2.2.2,h];exact #[_,_,_,_,_,hq,rfl,(pi T).mono (by decide),all _ #[rfl,rfl],all]
    .have hr2:∃dx,H q=some (.ins c.cW dx [("place",.int n),("weekday",.int v),("month",.int m)]):=by have:=hr1;unfold gH at this;dsimp only at this;rw [if_neg hn] at this;exact this
     obtain ⟨dxq,hq⟩:=hr2;have all:∀Q':VK,Q' (oV (dQ (.nth n v m) y)) H->jU c [.ref q,.int y] H Q' E0:=λQ' h=>#[q,dxq,n,v,m,y,rfl,hq,h1,okw.2.1,by omega,okw.1,okw.2.2.1,okw.2.2.2,h];exact #[_,_,_,_,_,hq,rfl,(qA T).mono (by decide),all _ #[rfl,rfl],all]
   |from_ v m d=>rw [ew] at hr1 okw;obtain ⟨dxq,b,bd,hq,hb⟩:=hr1;have all:∀Q':VK,Q' (oV (dQ (.from_ v m d) y)) H->i4 c [.ref q,.int y] H Q' E0:=λQ' h=>#[q,dxq,b,bd,v,m,d,y,rfl,hq,hb,h1,okw.1,okw.2.1,okw.2.2.1,okw.2.2.2.1,h];exact #[_,_,_,_,_,hq,rfl,(pj T).mono (by decide),all _ #[rfl,rfl],all]
  obtain ⟨C,dxq,fs,ps,sp,hq,hf,hm,_,all⟩:=rule;rw [AZ] at k;exists (aa (aL (PW.pt (sW (aA oX (aq (pv 0) rfl) dv (aE _)) (oG (PW.pt (nh (aA sZ (pv 1) (k9 (aq (pv 0) rfl) ag) (aE _)) (jf (aA iP (pv 1) (k9 (aq (pv 0) rfl) ag) (aE _)))))))) (ac (am dv)) aC)
   (ac (am (IG (aq (pv 0) rfl) (k:=6) hr.m bq (aV (pv 1))))))
  rfl';refine ay hp T.eW T.fH rfl ?_;cases ey:f.years with
  |none=>rw [ey] at hy1 k;have hy2:yv= .bZ:=hy1;subst hy2;rw [if_neg (by simp)] at k;rfl';refine eL ?_;rfl';refine ay hp T.eW T.jd rfl (x9 hq hf hm ?_);rfl';exact all _ k
  |some r=>
   rw [ey] at hy1 k;obtain ⟨t,rfl,ht⟩:=hy1;have e:(Option.all (λr:Nat×Nat=>decide (r.1<=y/\y<=r.2)) (some r))=decide (r.1<=y/\y<=r.2):=rfl;rw [e] at k;rfl';refine ay hp T.eW T.fH rfl ?_;rfl';by_cases c1:(y:Int)<r.1
   .rw [if_pos c1];rw [if_pos (by simp;omega)] at k;rfl';exact k
   .rw [if_neg c1];rfl';refine ay hp T.eW T.fH rfl ?_;rfl';by_cases c2:(r.2:Int)<y
    .rw [if_pos c2];rw [if_pos (by simp;omega)] at k;rfl';exact k
    .rw [if_neg c2];rw [if_neg (by simp;omega)] at k;rfl';refine eL ?_;rfl';refine ay hp T.eW T.jd rfl (x9 hq hf hm ?_);rfl';exact all _ k
end
def PQ (J:It) (g:TG) (tt:TT) (te:TE) (vs:List Nat) (D:KE) (σ:L2.St) (Q:VK) (H1:Hp):Prop:=∃W:Nat->Nat->Hp->Prop,(∃m,W 0 m (upd H1 D (.lst [])))/\∀i m H,W i m H->
 (J.stop i H/\Q (.ref D) H)\/(J.go i H/\∃Nx:Hp->Prop,(∀H',Nx H'->∃m',m'<m/\W (i+1) m' H')/\∀x H',J.JR i H x H'->g x (wipe σ vs) H' λσ2 H2=>wipe σ2 vs=wipe σ vs/\tt σ2 H2 λb H3=>if b=true then te σ2 H3 λy H4=>∃acc,H4 D=some (.lst acc)/\acc.length<sizeLine/\Nx (upd H4 D (.lst (acc++[y]))) else Nx H3)
theorem Mn (wi:TI) (g:TG) (tt:TT) (te:TE) (vs:List Nat):M8 wi g tt te vs=λσ H Q=>wi σ H λJ H1=>∀D,H1 D=none->PQ J g tt te vs D σ Q H1:=rfl
theorem wV {lo:Int} {n:Nat} {vs:List Nat} (Pv:Nat->Hp->Prop) (h0:Pv 0 (upd H1 D (.lst [])))
 (hs:∀i H,i<n->Pv i H->g (.int (lo+i)) (wipe σ vs) H λσ2 H2=>wipe σ2 vs=wipe σ vs/\tt σ2 H2 λb H3=>if b=true then te σ2 H3 λy H4=>∃acc,H4 D=some (.lst acc)/\acc.length<sizeLine/\Pv (i+1) (upd H4 D (.lst (acc++[y]))) else Pv (i+1) H3)
 (hd:∀H,Pv n H->Q (.ref D) H):PQ (FM lo n) g tt te vs D σ Q H1:=by
 refine #[λi m H=>m=n - i/\i<=n/\Pv i H,#[n,by simp,SW _,h0],?_];rintro i m H ⟨rfl,hi,p⟩;by_cases hlt:i<n
 .refine .inr #[hlt,Pv (i+1),λH' h=>#[n -(i+1),by omega,rfl,hlt,h],λx H' hx=>?_];obtain ⟨rfl,rfl⟩:H'=H/\x= .int (lo+i):=hx;exact hs i H' hlt p
 .have e:i=n:=by omega
  subst e;exact .inl #[Sf _,hd H p]
theorem pk {K:UT} {a:KE} {xs:List V} {g:TG} {tt:TT} {te:TE} {vs:List Nat} {D:KE} {σ:L2.St} {Q:VK} {H1:Hp} (Pv:Nat->Hp->Prop) (h0:Pv 0 (upd H1 D (.lst []))) (hl:∀i H,i<=xs.length->Pv i H->cB K H a xs)
 (hs:∀i x H,xs[i]? =some x->Pv i H->g x (wipe σ vs) H λσ2 H2=>wipe σ2 vs=wipe σ vs/\tt σ2 H2 λb H3=>if b=true then te σ2 H3 λy H4=>∃acc,H4 D=some (.lst acc)/\acc.length<sizeLine/\Pv (i+1) (upd H4 D (.lst (acc++[y]))) else Pv (i+1) H3)
 (hd:∀H,Pv xs.length H->Q (.ref D) H):PQ (Ie K a) g tt te vs D σ Q H1:=by
 refine #[λi m H=>m=xs.length - i/\i<=xs.length/\Pv i H,#[xs.length,by simp,SW _,h0],?_];rintro i m H ⟨rfl,hi,p⟩;by_cases hlt:i<xs.length
 .refine .inr #[#[xs,_,hl i H hi p,Ss hlt],Pv (i+1),λH' h=>#[xs.length -(i+1),by omega,rfl,hlt,h],λx H' hx=>?_];obtain ⟨rfl,hx⟩:H'=H/\∀xs,cB K H a xs->xs[i]? =some x:=hx;exact hs i x H' (hx xs (hl i H' hi p)) p
 .have e:i=xs.length:=by omega
  subst e;exact .inl #[#[xs,hl _ H hi p,Sf _],hd H p]
structure CA where
 dx:KE
 r:KE
 f:KE
 s:KE
 o:KE
 cl:KE
 no:KE
noncomputable abbrev l6 (n:Nat) (A:CA):List (Str×V):=[("sentences",.int n),("rest_weekdays",.ref A.r),("feasts",.ref A.f),("shut_days",.ref A.s),("opened_days",.ref A.o),("closings",.ref A.cl),("next_opens",.ref A.no)]
def eZ (H:Hp) (a:KE) (p:Nat->Bool):Prop:=∃kvs:List (Key×V),H a=some (.dK kvs)/\∀n:Nat,(aY kvs (.inl (n:Int))).isSome=p n
def BN (B:Nat) (kvs:List (Key×V)):Prop:=(kvs.map (·.1)).Nodup/\∀p∈kvs,∃n:Nat,p.1= .inl (n:Int)/\n<B
theorem jV:∀(B:Nat) (l:List Nat),l.Nodup->(∀k∈l,k<B)->l.length<=B
 |0,l,_,h=>by
  cases l with
  |nil=>exact Sf _
  |cons a l=>exact absurd (h a Sk) (Ug _)
 |B+1,l,nd,h=>by
  by_cases c:B∈l
  .have:=jV B (l.erase B) (nd.erase _) λk hk=>by
    have h1:=h k (List.mem_of_mem_erase hk);have hne:k≠B:=λz=>by rw [z] at hk;exact (List.Nodup.mem_erase_iff nd).mp hk |>.1 rfl
    omega
   rw [List.length_erase_of_mem c] at this;have:0<l.length:=List.length_pos_of_mem c;omega
  .have:=jV B l nd λk hk=>by have h1:=h k hk;have:k≠B:=λz=>c (by rw [<-z];exact hk);omega
   omega
theorem ug (B:Nat):∀(l:List Key),(∀k∈l,∃n:Nat,k= .inl (n:Int)/\n<B)->∃ns:List Nat,l=ns.map (λ(n:Nat)=>(Sum.inl (n:Int):Key))/\∀n∈ns,n<B
 |[],_=>#[[],rfl,λn h=>nomatch h]
 |a::l,h=>by
  obtain ⟨n,e,hn⟩:=h a Sk;obtain ⟨ns,e2,h2⟩:=ug B l λk hk=>h k (Sh _ hk);refine #[n::ns,by rw [e,e2];rfl,λm hm=>?_];rcases (Sg).mp hm with rfl|hm
  .exact hn
  .exact h2 m hm
theorem A0 (B:Nat) (l:List Key) (nd:l.Nodup) (h:∀k∈l,∃n:Nat,k= .inl (n:Int)/\n<B):l.length<=B:=by obtain ⟨ns,rfl,h2⟩:=ug B l h;rw [w4];refine jV B ns ?_ h2;unfold List.Nodup at nd ⊢;rw [List.pairwise_map] at nd;exact nd.imp λh e=>h (by rw [e])
theorem BN.len {B:Nat} (h:BN B kvs):kvs.length<=B:=by
 have:=A0 B (kvs.map (·.1)) h.1 λk hk=>by obtain ⟨p,hp,e⟩:=(Te).mp hk;obtain ⟨n,e1,e2⟩:=h.2 p hp;exact #[n,by rw [<-e,e1],e2]
 rwa [w4] at this
theorem BN.put {B:Nat} (h:BN B kvs) {n:Nat} (v:V) (hn:aY kvs (.inl (n:Int))=none) (hb:n<B):BN B (putK kvs (.inl (n:Int)) v):=by
 refine #[ID v h.1 hn,λp hp=>?_];rw [oP v hn] at hp;rcases (SU).mp hp with hp|hp
 .exact h.2 p hp
 .have:p=(.inl (n:Int),v):=by simpa using hp
  rw [this];exact #[n,rfl,hb]
theorem eZ.same {p:Nat->Bool} (s:eZ H a p) (h:∀o,H a=some o->H' a=some o):eZ H' a p:=let ⟨kvs,e,q⟩:=s;⟨kvs,h _ e,q⟩
theorem eZ.put {p:Nat->Bool} (e:∀n:Nat,(aY kvs (.inl (n:Int))).isSome=p n) (m:Nat) (v:V):eZ (upd H a (.dK (putK kvs (.inl (m:Int)) v))) a (λn=>decide (n=m)||p n):=by
 refine #[_,ae,λn=>?_];rw [d7];by_cases c:n=m
 .subst c;rw [if_pos rfl];simp
 .have c':¬(Sum.inl (n:Int):Key)= .inl (m:Int):=λz=>c (by have:=Ui z;omega);rw [if_neg c',e n];simp [c]
noncomputable def dJ (k:Calendar) (v:Nat):Bool:=k.contains (.rest v)
theorem Hj (k:Calendar) (n:Nat):rests k n=dJ k (weekday n):=by
 unfold rests dJ;rw [TV,UF,TB];constructor
 .rintro ⟨s,hs,h⟩;cases s with
  |rest v=>have:v=weekday n:=eq_of_beq h;rw [<-this];exact hs
  |feast f=>cases h
  |shut x=>cases h
  |open_ x=>cases h
 .intro h;exact #[_,h,beq_self_eq_true _]
structure bz (c:Cl) (M:KE->Prop) (H:Hp) (a:KE) (A:CA) (k:Calendar):Prop where
 obj:H a=some (.ins c.Calendar A.dx (l6 k.length A))
 rest:eZ H A.r (dJ k)
 feasts:∃ps:List KE,H A.f=some (.lst (ps.map V.ref))/\cC (dN c H) ps (aF k)
 shut:eZ H A.s (shutOn k)
 opened:eZ H A.o (openOn k)
 cl:∃kvs:List (Key×V),H A.cl=some (.dK kvs)/\BN 3001 kvs/\∀(y:Nat) (v:V),aY kvs (.inl (y:Int))=some v->∃d,v= .ref d/\¬M d/\eZ H d (λn=>(Tv k y).any λx=>x.2==n)
 no:∃kvs:List (Key×V),H A.no=some (.dK kvs)/\BN 300001 kvs/\∀(n:Nat) (v:V),aY kvs (.inl (n:Int))=some v->v= .int (nextOpen k n:Nat)
 mm:∀b,M b->∃kvs:List (Key×V),H b=some (.dK kvs)
 nr:¬M A.r
 ns:¬M A.s
 Hk:¬M A.o
 Jq:M A.cl
 Kb:M A.no
 ne:A.cl≠A.no
 ok:jN k
 rW:∀s∈k,ku s
theorem gH.same (kp:∀b C dx fs,H b=some (.ins C dx fs)->H' b=some (.ins C dx fs)) (h:gH c H q x):gH c H' q x:=by
 cases x with
 |fixed m d=>obtain ⟨dx,h⟩:=h;exact #[dx,kp _ _ _ _ h]
 |moon off=>obtain ⟨dx,h⟩:=h;exact #[dx,kp _ _ _ _ h]
 |nth k v m=>
  unfold gH at h ⊢;dsimp only at h ⊢;split at h
  .rename_i e;rw [if_pos e];obtain ⟨dx,h⟩:=h;exact #[dx,kp _ _ _ _ h]
  .rename_i e;rw [if_neg e];obtain ⟨dx,h⟩:=h;exact #[dx,kp _ _ _ _ h]
 |from_ v m d=>obtain ⟨dx,b,bd,h,h2⟩:=h;exact #[dx,b,bd,kp _ _ _ _ h,kp _ _ _ _ h2]
theorem dN.same (kp:∀b C dx fs,H b=some (.ins C dx fs)->H' b=some (.ins C dx fs)) (kt:∀b xs,H b=some (.tup xs)->H' b=some (.tup xs)) (h:dN c H p f):dN c H' p f:=by
 obtain ⟨dx,q,y,h1,h2,h3⟩:=h;refine #[dx,q,y,kp _ _ _ _ h1,h2.same kp,?_];cases e:f.years with
 |none=>rw [e] at h3;exact h3
 |some r=>rw [e] at h3;obtain ⟨t,a,b⟩:=h3;exact #[t,a,kt _ _ b]
section
variable {M:KE->Prop} {H H':Hp} {a:KE} {A:CA} {k:Calendar}
theorem bz.keep (R:bz c M H a A k) (kp:∀b o,H b=some o->¬M b->H' b=some o) (k1:∀o,H A.cl=some o->H' A.cl=some o) (k2:∀o,H A.no=some o->H' A.no=some o) (mm:∀b,M b->∃kvs:List (Key×V),H' b=some (.dK kvs)):bz c M H' a A k:=by
 have nd:∀{b o},H b=some o->(∀kvs,o≠.dK kvs)->¬M b:=λ{b o} h hn z=>by obtain ⟨kvs,e⟩:=R.mm b z;rw [h] at e;exact hn kvs (Sd e)
 have ki:∀b C dx fs,H b=some (.ins C dx fs)->H' b=some (.ins C dx fs):=λb C dx fs h=>kp _ _ h (nd h λ_=>by simp);refine #[ki _ _ _ _ R.obj,R.rest.same λo h=>kp _ _ h R.nr,?_,R.shut.same λo h=>kp _ _ h R.ns,R.opened.same λo h=>kp _ _ h R.Hk,?_,?_,mm,R.nr,R.ns,R.Hk,R.Jq,R.Kb,R.ne,R.ok,R.rW]
 .obtain ⟨ps,h1,h2⟩:=R.feasts;exact #[ps,kp _ _ h1 (nd h1 λ_=>by simp),h2.imp λp f h=>h.same ki λb xs h=>kp _ _ h (nd h λ_=>by simp)]
 .obtain ⟨kvs,h1,h2,h3⟩:=R.cl;refine #[kvs,k1 _ h1,h2,λy v h=>?_];obtain ⟨d,e,nm,s⟩:=h3 y v h;exact #[d,e,nm,s.same λo h=>kp _ _ h nm]
 .obtain ⟨kvs,h1,h2,h3⟩:=R.no;exact #[kvs,k2 _ h1,h2,h3]
theorem bz.same (R:bz c M H a A k) (s:aj H H'):bz c M H' a A k:=R.keep (λb o h _=>s b o h) (λo h=>s _ _ h) (λo h=>s _ _ h) λb z=>let ⟨kvs,e⟩:=R.mm b z;⟨kvs,s _ _ e⟩
theorem bz.other (R:bz c M H a A k) (h:H D=some (.lst acc)) (hf:D≠A.f):bz c M (upd H D o) a A k:=by
 have kd:∀{b kvs},H b=some (.dK kvs)->upd H D o b=some (.dK kvs):=λ{b kvs} e=>by rw [ai (aX e h nofun)];exact e
 have ki:∀b C dx fs,H b=some (.ins C dx fs)->upd H D o b=some (.ins C dx fs):=λb C dx fs e=>by rw [ai (aX e h nofun)];exact e
 have kt:∀b xs,H b=some (.tup xs)->upd H D o b=some (.tup xs):=λb xs e=>by rw [ai (aX e h nofun)];exact e
 have ks:∀{b p},eZ H b p->eZ (upd H D o) b p:=λ{b p} s=>let ⟨kvs,e,q⟩:=s;⟨kvs,kd e,q⟩
 refine #[ki _ _ _ _ R.obj,ks R.rest,?_,ks R.shut,ks R.opened,?_,?_,λb z=>let ⟨kvs,e⟩:=R.mm b z;⟨kvs,kd e⟩,R.nr,R.ns,R.Hk,R.Jq,R.Kb,R.ne,R.ok,R.rW]
 .obtain ⟨ps,h1,h2⟩:=R.feasts;exact #[ps,by rw [ai (λz=>hf z.symm)];exact h1,h2.imp λp f h=>h.same ki kt]
 .obtain ⟨kvs,h1,h2,h3⟩:=R.cl;refine #[kvs,kd h1,h2,λy v h=>?_];obtain ⟨d,e,nm,s⟩:=h3 y v h;exact #[d,e,nm,ks s]
 .obtain ⟨kvs,h1,h2,h3⟩:=R.no;exact #[kvs,kd h1,h2,h3]
theorem bz.new (R:bz c M H a A k) (h:H D=none):D≠A.f:=λe=>by obtain ⟨ps,h1,_⟩:=R.feasts;rw [<-e,h] at h1;cases h1
def jW (A:CA) (H H':Hp):Prop:=∀b o,H b=some o->b≠A.cl->b≠A.no->H' b=some o
noncomputable def E6 (A:CA) (H H':Hp):Prop:=∀b o,H b=some o->b≠A.cl->H' b=some o
theorem E6.of (s:aj H H'):E6 A H H':=λb o h _=>s b o h
theorem E6.trans (x:E6 A H H1) (y:E6 A H1 H2):E6 A H H2:=λb o h n1=>y b o (x b o h n1) n1
theorem E6.Mo (x:E6 A H H'):jW A H H':=λb o h n _=>x b o h n
theorem jW.of (s:aj H H'):jW A H H':=λb o h _ _=>s b o h
theorem jW.trans (x:jW A H H1) (y:jW A H1 H2):jW A H H2:=λb o h n1 n2=>y b o (x b o h n1 n2) n1 n2
theorem jW.get (x:jW A H H') (R:bz c M H a A k) (h:H b=some o) (hn:∀kvs,o≠.dK kvs):H' b=some o:=by obtain ⟨k1,e1,_⟩:=R.cl;obtain ⟨k2,e2,_⟩:=R.no;exact x b o h (aX h e1 (hn _)) (aX h e2 (hn _))
theorem bz.OR (R:bz c M H a A k) (h:H A.cl=some (.dK kvs)) {y:Nat} (hy:y<3001) (hn:aY kvs (.inl (y:Int))=none) (hd:¬M d) (hs:eZ H d (λn=>(Tv k y).any λx=>x.2==n)):
 bz c M (upd H A.cl (.dK (putK kvs (.inl (y:Int)) (.ref d)))) a A k/\E6 A H (upd H A.cl (.dK (putK kvs (.inl (y:Int)) (.ref d)))):=by
 have kp:∀b o,H b=some o->b≠A.cl->upd H A.cl (.dK (putK kvs (.inl (y:Int)) (.ref d))) b=some o:=λb o h n=>by rw [ai n];exact h
 have kpM:∀b o,H b=some o->¬M b->upd H A.cl (.dK (putK kvs (.inl (y:Int)) (.ref d))) b=some o:=λb o h n=>kp b o h λz=>n (by rw [z];exact R.Jq);have nd:∀{b o},H b=some o->(∀kvs,o≠.dK kvs)->¬M b:=λ{b o} h hn z=>by obtain ⟨kvs,e⟩:=R.mm b z;rw [h] at e;exact hn kvs (Sd e)
 have ki:∀b C dx fs,H b=some (.ins C dx fs)->upd H A.cl (.dK (putK kvs (.inl (y:Int)) (.ref d))) b=some (.ins C dx fs):=λb C dx fs h=>kpM _ _ h (nd h λ_=>by simp);refine #[#[ki _ _ _ _ R.obj,R.rest.same λo h=>kpM _ _ h R.nr,?_,R.shut.same λo h=>kpM _ _ h R.ns,R.opened.same λo h=>kpM _ _ h R.Hk,?_,?_,λb z=>?_,R.nr,R.ns,R.Hk,R.Jq,R.Kb,R.ne,R.ok,R.rW],λb o h n=>kp b o h n]
 .obtain ⟨ps,h1,h2⟩:=R.feasts;exact #[ps,kpM _ _ h1 (nd h1 λ_=>by simp),h2.imp λp f h=>h.same ki λb xs h=>kpM _ _ h (nd h λ_=>by simp)]
 .obtain ⟨kvs',h1,h2,h3⟩:=R.cl;rw [h] at h1;cases h1;refine #[_,ae,h2.put _ hn hy,λy' v hv=>?_];rw [d7] at hv;by_cases c:y'=y
  .subst c;rw [if_pos rfl] at hv;cases hv;exact #[d,rfl,hd,hs.same λo h=>kpM _ _ h hd]
  .rw [if_neg (λz=>c (by have:=Ui z;omega))] at hv;obtain ⟨d',e,nm,s⟩:=h3 y' v hv;exact #[d',e,nm,s.same λo h=>kpM _ _ h nm]
 .obtain ⟨kvs',h1,h2,h3⟩:=R.no;exact #[kvs',kp _ _ h1 λz=>R.ne z.symm,h2,h3]
 .by_cases e:b=A.cl
  .exact #[_,by rw [e];exact ae]
  .obtain ⟨kvs',h'⟩:=R.mm b z;exact #[kvs',kp _ _ h' e]
theorem bz.OS (R:bz c M H a A k) (h:H A.no=some (.dK kvs)) {n:Nat} (hy:n<300001) (hn:aY kvs (.inl (n:Int))=none):
 bz c M (upd H A.no (.dK (putK kvs (.inl (n:Int)) (.int (nextOpen k n:Nat))))) a A k/\jW A H (upd H A.no (.dK (putK kvs (.inl (n:Int)) (.int (nextOpen k n:Nat))))):=by
 have kp:∀b o,H b=some o->b≠A.no->upd H A.no (.dK (putK kvs (.inl (n:Int)) (.int (nextOpen k n:Nat)))) b=some o:=λb o h n=>by rw [ai n];exact h
 have kpM:∀b o,H b=some o->¬M b->upd H A.no (.dK (putK kvs (.inl (n:Int)) (.int (nextOpen k n:Nat)))) b=some o:=λb o h n=>kp b o h λz=>n (by rw [z];exact R.Kb);have nd:∀{b o},H b=some o->(∀kvs,o≠.dK kvs)->¬M b:=λ{b o} h hn z=>by obtain ⟨kvs,e⟩:=R.mm b z;rw [h] at e;exact hn kvs (Sd e)
 have ki:∀b C dx fs,H b=some (.ins C dx fs)->upd H A.no (.dK (putK kvs (.inl (n:Int)) (.int (nextOpen k n:Nat)))) b=some (.ins C dx fs):=λb C dx fs h=>kpM _ _ h (nd h λ_=>by simp);refine #[#[ki _ _ _ _ R.obj,R.rest.same λo h=>kpM _ _ h R.nr,?_,R.shut.same λo h=>kpM _ _ h R.ns,R.opened.same λo h=>kpM _ _ h R.Hk,?_,?_,λb z=>?_,R.nr,R.ns,R.Hk,R.Jq,R.Kb,R.ne,R.ok,R.rW],λb o h _ n=>kp b o h n]
 .obtain ⟨ps,h1,h2⟩:=R.feasts;exact #[ps,kpM _ _ h1 (nd h1 λ_=>by simp),h2.imp λp f h=>h.same ki λb xs h=>kpM _ _ h (nd h λ_=>by simp)]
 .obtain ⟨kvs',h1,h2,h3⟩:=R.cl;refine #[kvs',kp _ _ h1 R.ne,h2,λy v hv=>?_];obtain ⟨d,e,nm,s⟩:=h3 y v hv;exact #[d,e,nm,s.same λo h=>kpM _ _ h nm]
 .obtain ⟨kvs',h1,h2,h3⟩:=R.no;rw [h] at h1;cases h1;refine #[_,ae,h2.put _ hn hy,λm v hv=>?_];rw [d7] at hv;by_cases c:m=n
  .subst c;rw [if_pos rfl] at hv;cases hv;rfl
  .rw [if_neg (λz=>c (by have:=Ui z;omega))] at hv;exact h3 m v hv
 .by_cases e:b=A.no
  .exact #[_,by rw [e];exact ae]
  .obtain ⟨kvs',h'⟩:=R.mm b z;exact #[kvs',kp _ _ h' e]
end
section
theorem mX:al ["self","day"] ["self","day"] (ah (inClass (top 52) 1)):=by ext
noncomputable def mY (c:Cl):Sp:=Av λ(M:KE->Prop) (a:KE) (A:CA) (k:Calendar) (n:Nat) vs H Q _=>vs=[.ref a,.int n]/\bz c M H a A k/\Q (.bl (rests k n)) H
theorem g9 (T:Tx):MO d8 2 c.Calendar "is_rest" ["self","day"] (mY c):=by
 refine T.nR.g T.aB mX (by ext) λ_ _ A _ _ H vs Q E hr h=>?_
 .obtain ⟨M,a,A,k,n,rfl,R,h⟩:=h;have hu:=ir hr;exists (ac (am (FD (nX hu (fW (jp T) hr.m (aV (pv 1))) (aq (pv 0) rfl)) rfl)));walk_at "rd";refine #[n,rfl,?_];walk_at "rd";obtain ⟨kvs,e,q⟩:=R.rest;refine #[_,_,_,R.obj,T.aB,T.bT,_,rfl,A.r,rfl,_,fT.k (k:=.inl (weekday n:Nat)) e,?_];rw [q,<-Hj];exact h
theorem fZ:al ["self","day","taken"] ["self","day","taken"] (ah (inClass (top 52) 3)):=by ext
noncomputable def lh (c:Cl):Sp:=RK λ(M:KE->Prop) (a:KE) (A:CA) (k:Calendar) (n:Nat) (t:KE) (taken:List Nat) vs H Q _=>vs=[.ref a,.int n,.ref t]/\bz c M H a A k/\eZ H t (λn=>taken.contains n)/\taken.length<=20/\
 Q (.int (if (rests k n||taken.contains n)=true then freeAfter k taken 200 n else n:Nat)) H
theorem li (T:Tx):MO d8 3 c.Calendar "moved_day" ["self","day","taken"] (lh c):=by
 refine T.lq.g T.aB fZ (by ext) λ_ _ A _ _ H vs Q E hr h=>?_
 .obtain ⟨M,a,A,k,n,t,taken,rfl,R,⟨kvs,e,q⟩,hl,h⟩:=h;have hu:=ir hr;exists (aa (gC Tb (PW.pt (nh (c9 (bJ (pv 0) (g9 T) hr.m bq (aV (pv 1)))) (jf (fh (nX hu (pv 1) (pv 2)) rfl)))) (ac (j_ (i:=1) fZ.nd rfl (by first|exact Tk rfl|exact Tp rfl) ag nV)))
   (ac (am (pv 1))))
  obtain ⟨d,h1,h2,h3,h4,h5⟩:=G0 R.ok taken hl n;rw [h5] at h;walk_at "rd";refine lE (λm σ' H'=>H'=H/\∃x:Nat,σ'=[some (.ref a),some (.int x),some (.ref t)]/\n<=x/\x+m=d) (m0:=d - n) #[rfl,n,rfl,Sf _,by omega] ?_;rintro m σ' H' ⟨rfl,x,rfl,hx,hm⟩;walk_at "rd";refine #[_,_,R.obj,rfl,M,a,A,k,x,rfl,R,?_];walk_at "rd";have next:∀(σ':L2.St) (H2:Hp),x<d->(H2=H'/\σ'=[some (.ref a),some (.int (x+1:Nat)),some (.ref t)])->∃m',m'<m/\H2=H'/\∃y:Nat,σ'=[some (.ref a),some (.int y),some (.ref t)]/\n<=y/\y+m'=d:=λσ' H2 hlt #[e1,e2]=>#[m - 1,by omega,e1,x+1,e2,by omega,by omega]
  by_cases hxd:x<d
  .have hbad:=h4 x hx hxd;unfold bad at hbad;by_cases hr1:rests k x=true
   .rw [if_pos hr1];exact #[λσ' H2=>H2=H'/\σ'=[some (.ref a),some (.int (x+1:Nat)),some (.ref t)],λσ' H2 z=>next σ' H2 hxd z,rfl,by simp]
   .rw [if_neg hr1];refine #[_,fT.k (k:=.inl (x:Int)) e,?_];rw [q];have ht:taken.contains x=true:=by rw [Us] at hbad;exact hbad.resolve_left hr1
    dsimp only;rw [if_pos ht];exact #[λσ' H2=>H2=H'/\σ'=[some (.ref a),some (.int (x+1:Nat)),some (.ref t)],λσ' H2 z=>next σ' H2 hxd z,rfl,by simp]
  .have ex:x=d:=by omega
   subst ex;unfold bad at h3;rw [Bool.or_eq_false_iff] at h3;rw [if_neg (by rw [h3.1];simp)];refine #[_,fT.k (k:=.inl (x:Int)) e,?_];rw [q];dsimp only;rw [if_neg (by rw [h3.2];simp)];exact h
theorem KL.side {L:List (Nat×Nat)} (k:KL H q H' L qs) (ht:H t=none) (h:H' t=some (.dK kvs)):KL H q (upd H' t o) L qs:=by
 refine #[λb u e=>?_,k.new,?_,k.vH.imp λa b e=>?_]
 .rw [ai (ak e ht)];exact k.same _ _ e
 .rw [ai (aX k.at_ h nofun)];exact k.at_
 .have e':H' a=some (.tup [.int b.1,.int b.2]):=e;show upd H' t o a=_;rw [ai (aX e' h nofun)];exact e'
theorem KL.grow {L:List (Nat×Nat)} (k:KL H q H' L qs) (ht:H' t=none):KL H q (upd H' t o) L qs:=by have s:=aj.upd (o:=o) ht;exact #[k.same.trans s,k.new,s _ _ k.at_,k.vH.imp λa b e=>s _ _ e]
theorem rX (k:Calendar) (y:Nat) (l:List Feast) (f:Feast) (L:List (Nat×Nat)):feastsFrom k y ((l++[f]).map .feast) []=(match feastDay f y with
 |none=>feastsFrom k y (l.map .feast) []
 |some n=>feastsFrom k y (l.map .feast) []++[(n,if f.moves=true/\(rests k n||((feastsFrom k y (l.map .feast) []).map λx=>x.2).contains n)=true then freeAfter k ((feastsFrom k y (l.map .feast) []).map λx=>x.2) 200 n else n)]):=by
 rw [Sw,cg];rw [show ([f].map T3)=[T3 f] from rfl]
 conv=>lhs;unfold feastsFrom
 dsimp only;cases feastDay f y with
 |none=>rfl
 |some n=>rfl
theorem Sb {b:Bool} {ta tb:TE} {σ:L2.St} {H:Hp} {Q:VK} (v:V) (h1:b=true->∀Q:VK,Q v H->ta σ H Q) (h2:¬b=true->∀Q:VK,Q v H->tb σ H Q) (h:Q v H):if b=true then ta σ H Q else tb σ H Q:=by
 by_cases c:b=true
 .rw [if_pos c];exact h1 c Q h
 .rw [if_neg c];exact h2 c Q h
theorem bB:al ["self","year","found","taken","feast","day","closing"] ["self","year"] (ah (inClass (top 52) 2)):=by ext
noncomputable def kI (c:Cl):Sp:=Av λ(M:KE->Prop) (a:KE) (A:CA) (k:Calendar) (y:Nat) vs H Q _=>vs=[.ref a,.int y]/\bz c M H a A k/\2000<=y/\y<=3000/\∀(H':Hp) (q:KE),aj H H'->kF H' q (Tv k y)->Q (.ref q) H'
theorem fQ (T:Tx):MO d8 8 c.Calendar "feast_days" ["self","year"] (kI c):=by
 refine T.lc.g T.aB bB (by ext) λ_ _ A _ _ H vs Q E hr h=>?_
 .obtain ⟨M,a,A,k,y,rfl,R,h1,h2,h⟩:=h;have hu:=ir hr;exists (aa (bt 2 bB.nd (aQ fi))
   (aa (bt 3 bB.nd eY)
   (aa (cp Tb rfl (cb (aq (pv 0) rfl)) (bg (i:=4) bB.nd rfl (by first|exact Tk rfl|exact Tp rfl)) (aa (bt 5 bB.nd (bJ (pv 4) (rV T) hr.m bq (aV (pv 1))))
   (ac (aL (aA oX (pv 5) dv (aE _)) (aa (bt 6 bB.nd (oH (c9 (aq (pv 4) rfl)) (bJ (pv 0) (li T) hr.m bq (cz (pv 5) (pv 3))) (pv 5)))
   (aa (gt hu (pv 3) (pv 6) kY rfl)
   (ac (bA (dG Sr SD SF bD (pv 2) (aV (gQ (cz (pv 5) (pv 6))))))))) aC))))
   (ac (am (pv 2))))))
  obtain ⟨ps,hf,hps⟩:=R.feasts;have hlen:(aF k).length<=20:=by have:=jk k;have:=o6 k;have:=R.ok.len;unfold o5 at*;omega
  have ho:=R.obj;rfl';refine #[by decide,λq hq=>?_];rfl';refine IU λt ht=>?_;have sq:aj H (upd H q (.lst [])):=aj.upd hq;have ht0:H t=none:=sq.free ht;have s2:aj H (upd (upd H q (.lst [])) t (.dK [])):=sq.trans (aj.upd ht);rfl';refine ay (s2 _ _ ho) T.aB T.dt rfl (IZ (s2 _ _ hf) ?_);rfl';refine bR (xs:=ps.map V.ref) (λi σ' H'=>(∃qs,KL H q H' (feastsFrom k y (((aF k).take i).map .feast) []) qs)/\(∃kvs:List (Key×V),H' t=some (.dK kvs)/\kvs.length<=i/\∀n:Nat,(aY kvs (.inl (n:Int))).isSome=((feastsFrom k y (((aF k).take i).map .feast) []).map λx=>x.2).contains n)/\∃v1 v2 v3,σ'=[some (.ref a),some (.int y),some (.ref q),some (.ref t),v1,v2,v3])
   #[#[_,(KL.start hq).grow ht],#[[],ae,Sf _,λn=>rfl],none,none,none,rfl] (λi σ' H' _ h=>by obtain ⟨⟨_,h⟩,_⟩:=h;exact cB.of (h.get hf)) ?_ ?_
  .rintro i yv σ' H' hy ⟨⟨qs,kl⟩,⟨kvs,hkt,hkl,hks⟩,v1,v2,v3,rfl⟩;obtain ⟨p,hpi,rfl⟩:=fg hy;obtain ⟨ft,hft,hFR⟩:=hps.get hpi;have hFR':dN c H' p ft:=hFR.same (λb C dx fs h=>kl.get h) (λb xs h=>kl.get h);have hsaid:ku (.feast ft):=by
    refine R.rW _ ?_;have hm:=SE hft;unfold aF at hm;obtain ⟨s0,hs0,e0⟩:=(Ua).mp hm;cases s0 with
    |feast f0=>cases e0;exact hs0
    |rest _=>cases e0
    |shut _=>cases e0
    |open_ _=>cases e0
   have R':bz c M H' a A k:=R.same kl.same;have esn:=rX k y ((aF k).take i) ft [];rw [<-take_snoc hft] at esn;have hLl:(feastsFrom k y (((aF k).take i).map .feast) []).length<=i:=by have:=cI k y (((aF k).take i).map .feast) [];have e2:(((aF k).take i).map T3).countP iV<=(((aF k).take i).map T3).length:=List.countP_le_length;rw [w4,S8] at e2;simp only [Ur] at this;omega
   have hi:i<20:=by have:=((Sl).mp hft).1;omega
   generalize feastsFrom k y (((aF k).take i).map .feast) []=L at kl hks esn hLl;generalize feastsFrom k y (((aF k).take (i+1)).map .feast) []=L' at esn ⊢;rfl';obtain ⟨dxp,qr,yv,hpo,hrest⟩:=id hFR';refine br hpo rfl ?_;rfl';refine #[p,ft,y,rfl,hFR',hsaid,h1,h2,?_];cases ed:feastDay ft y with
   |none=>rw [ed] at esn;dsimp only at esn;subst esn;show II _ _ _ .bZ _;rfl';exact #[#[qs,kl],#[kvs,hkt,by omega,hks],_,_,_,rfl]
   |some n=>
    rw [ed] at esn;dsimp only at esn;obtain ⟨d,ed⟩:∃d,d=(if ft.moves=true/\(rests k n||(L.map λx=>x.2).contains n)=true then freeAfter k (L.map λx=>x.2) 200 n else n):=#[_,rfl];rw [<-ed] at esn;have kl2:=kl.side (o:=.dK (putK kvs (.inl (d:Int)) (.bl true))) ht0 hkt;have hq2:=kl2.at_;have st:∀m:Nat,(aY (putK kvs (.inl (d:Int)) (.bl true)) (.inl (m:Int))).isSome=(L'.map λx=>x.2).contains m:=by
     obtain ⟨kv2,e2,h2⟩:=eZ.put (H:=H') (a:=t) (p:=λn=>(L.map λx=>x.2).contains n) hks d (.bl true);rw [ae] at e2;cases e2;intro m;rw [h2 m,esn,Sw];rw [TV,Us,decide_eq_true_eq,TB,TB,SU];constructor
     .rintro (z|z)
      .exact .inr ((SB).mpr z)
      .exact .inl z
     .rintro (z|z)
      .exact .inr z
      .exact .inl ((SB).mp z)
    show II _ _ _ (.int n) _;rfl';refine ay hpo T.eW T.ls rfl ?_;rfl';refine Sb (.int d) (λhmv Q z=>?_) (λhmv Q z=>?_) ?_
    .rfl';refine br R'.obj rfl ?_;rfl';refine #[M,a,A,k,n,t,L.map λx=>x.2,rfl,R',#[kvs,hkt,hks],(by rw [w4];omega),?_];simp only [hmv,true_and] at ed;rw [<-ed];exact z
    .rw [if_neg (λz=>hmv z.1)] at ed;rw [ed] at z;rfl';exact z
    .rfl';refine qu hkt (aI (by omega)) ?_;rfl';refine #[(by show 2<=sizeLine;decide),λp hp=>?_];rfl';refine bN (kl2.put hp) ?_ ?_
     .rw [w4,kl.vH.length];exact aI (by omega)
     .rfl';have ht2:upd H' t (.dK (putK kvs (.inl (d:Int)) (.bl true))) t=some (.dK (putK kvs (.inl (d:Int)) (.bl true))):=ae;refine #[#[qs++[p],?_],#[_,?_,?_,st],_,_,_,rfl]
      .rw [esn];exact kl2.app hp (n,d)
      .rw [ai (aX ht2 kl2.at_ nofun),ai (ak ht2 hp)];exact ht2
      .have:=iS kvs (.inl (d:Int)) (.bl true);omega
  .rintro σ' H' ⟨⟨qs,kl⟩,_,v1,v2,v3,rfl⟩;rfl';rw [w4,hps.length,SX,<-cU] at kl;exact h _ _ kl.same #[qs,kl.at_,kl.vH]
theorem b9:al ["self","year","days","pair"] ["self","year"] (ah (inClass (top 52) 4)):=by ext
noncomputable def gJ (c:Cl):Sp:=Av λ(M:KE->Prop) (a:KE) (A:CA) (k:Calendar) (y:Nat) vs H Q _=>vs=[.ref a,.int y]/\bz c M H a A k/\2000<=y/\y<=3000/\∀(H':Hp) (d:KE),bz c M H' a A k->E6 A H H'->eZ H' d (λn=>(Tv k y).any λx=>x.2==n)->Q (.ref d) H'
theorem dk (T:Tx):MO d8 9 c.Calendar "closed_for_feasts" ["self","year"] (gJ c):=by
 refine T.gN.g T.aB b9 (by ext) λ_ _ A _ _ H vs Q E hr h=>?_
 .obtain ⟨M,a,A,k,y,rfl,R,h1,h2,h⟩:=h;have hu:=ir hr;exists (aa (aL (fh (mD hu (pv 1) (aq (pv 0) rfl)) rfl) (aa (bt 2 b9.nd eY)
   (aa (cp Tb rfl (cb (bJ (pv 0) (fQ T) hr.m bq (aV (pv 1)))) (bg (i:=3) b9.nd rfl (by first|exact Tk rfl|exact Tp rfl)) (ac (gt hu (pv 2) (k9 (pv 3) ag) kY rfl)))
   (ac (gt hu (aq (pv 0) rfl) (pv 1) (pv 2) rfl)))) aC)
   (ac (am (oQ hu (aq (pv 0) rfl) (pv 1) (λ_ _=>rfl)))))
  have ho:=R.obj;obtain ⟨kvs,hcl,hb,hv⟩:=R.cl;rfl';refine ay ho T.aB T.b7 rfl ?_;rfl';cases e0:aY kvs (.inl (y:Int)) with
  |some v=>obtain ⟨d,rfl,nm,hs⟩:=hv y v e0;rfl';refine ay ho T.aB T.b7 rfl ?_;rfl';refine CI hcl e0 ?_;rfl';exact h H d R (λb o h _=>h) hs
  |none=>
   rfl';refine IU λd hd=>?_;have sd:aj H (upd H d (.dK [])):=aj.upd hd;have nmd:¬M d:=λz=>by obtain ⟨kv,e⟩:=R.mm d z;rw [hd] at e;cases e
   rfl';refine br (sd _ _ ho) rfl ?_;rfl';refine #[M,a,A,k,y,rfl,R.same sd,h1,h2,λH1 q s1 hq=>?_];obtain ⟨ps,hq,hps⟩:=hq;have hd1:H1 d=some (.dK []):=s1 _ _ ae;rfl';have hfl:(Tv k y).length<=20:=by have:=fm k y;have:=o6 k;have:=R.ok.len;omega
   refine bR (xs:=ps.map V.ref) (λi σ' H'=>(∀b o,H1 b=some o->b≠d->H' b=some o)/\(∃kv:List (Key×V),H' d=some (.dK kv)/\kv.length<=i/\∀n:Nat,(aY kv (.inl (n:Int))).isSome=((Tv k y).take i).any λx=>x.2==n)/\∃v,σ'=[some (.ref a),some (.int y),some (.ref d),v])
    #[λb o h _=>h,#[[],hd1,Sf _,λn=>rfl],none,rfl] (λi σ' H' _ h=>by obtain ⟨h,_⟩:=h;exact cB.of (h _ _ hq (aX hq hd1 nofun))) ?_ ?_
   .rintro i yv σ' H' hy ⟨kp,⟨kv,hkd,hkl,hks⟩,v,rfl⟩;obtain ⟨p,hpi,rfl⟩:=fg hy;obtain ⟨x,hx,hR⟩:=hps.get hpi;have hR':H' p=some (.tup [.int x.1,.int x.2]):=kp _ _ hR (aX hR hd1 nofun);have hi:i<20:=by have:=((Sl).mp hx).1;omega
    rfl';refine qu hkd (aI (by omega)) #[λb o e n=>by rw [ai n];exact kp b o e n,#[_,ae,?_,λn=>?_],_,rfl]
    .have:=iS kv (.inl (x.2:Int)) (.bl true);omega
    .obtain ⟨kv2,e2,h2⟩:=eZ.put (H:=H') (a:=d) (p:=λn=>((Tv k y).take i).any λx=>x.2==n) hks x.2 (.bl true);rw [ae] at e2;cases e2;rw [h2 n,take_snoc hx,List.any_append];rw [TV];simp only [Us,decide_eq_true_eq,Uh,List.any_nil,Ut,beq_iff_eq];constructor
     .rintro (z|z)
      .exact .inr z.symm
      .exact .inl z
     .rintro (z|z)
      .exact .inr z
      .exact .inl z.symm
   .rintro σ' H' ⟨kp,⟨kv,hkd,hkl,hks⟩,v,rfl⟩;rw [w4,hps.length,SX] at hks;have sH:aj H H':=λb o e=>kp b o (s1 _ _ (sd _ _ e)) (ak e hd);have R2:=R.same sH;have hcl2:=sH _ _ hcl;obtain ⟨R3,K3⟩:=R2.OR hcl2 (y:=y) (d:=d) (by omega) e0 nmd #[kv,hkd,hks];rfl';refine ay R2.obj T.aB T.b7 rfl ?_;rfl';refine qu hcl2 (aI (by have:=hb.len;omega)) ?_;rfl';refine ay R3.obj T.aB T.b7 rfl ?_;rfl';refine CI ae (by rw [d7,if_pos rfl]) ?_;rfl';refine h _ d R3 ((E6.of sH).trans K3) #[kv,?_,hks];rw [ai (λz=>nmd (by rw [z];exact R.Jq))];exact hkd
theorem f_:al ["self","day","year"] ["self","day"] (ah (inClass (top 52) 5)):=by ext
noncomputable def lj (c:Cl):Sp:=Av λ(M:KE->Prop) (a:KE) (A:CA) (k:Calendar) (n:Nat) vs H Q _=>vs=[.ref a,.int n]/\bz c M H a A k/\n<=350000/\∀(H':Hp),bz c M H' a A k->E6 A H H'->Q (.bl (closed k n)) H'
theorem cP (T:Tx):MO d8 10 c.Calendar "is_closed" ["self","day"] (lj c):=by
 refine T.lr.g T.aB f_ (by ext) λ_ _ A _ _ H vs Q E hr h=>?_
 .obtain ⟨M,a,A,k,n,rfl,R,h1,h⟩:=h;have hu:=ir hr;exists (aa (aL (fh (nX hu (pv 1) (aq (pv 0) rfl)) rfl) (ac (am kY)) aC)
   (aa (aL (PW.pt (nh (c9 (bJ (pv 0) (g9 T) hr.m bq (aV (pv 1)))) (jf (fh (nX hu (pv 1) (aq (pv 0) rfl)) rfl)))) (ac (am kY)) aC)
   (aa (bt 2 f_.nd (fW (uc T) hr.m (aV (pv 1))))
   (aa (aL (fh (nX hu (pv 1) (bJ (pv 0) (dk T) hr.m bq (aV (pv 2)))) rfl) (ac (am kY)) aC)
   (ac (am (xL (iQ iP (pv 2) (gI 2000 T.fE rfl) (aE _)) (sX (FD (nX hu (pv 1) (bJ (pv 0) (dk T) hr.m bq (aV (az cq (pv 2) ag)))) rfl)))))))))
  have ho:=R.obj;obtain ⟨kvo,eo,qo⟩:=R.opened;obtain ⟨kvs,es,qs⟩:=R.shut;have hc:closed k n=(!openOn k n&&(rests k n||(shutOn k n||(((feasts k (yearOf n)).any λx=>x.2==n)||(decide (FIRST<yearOf n)&&(feasts k (yearOf n - 1)).any λx=>x.2==n))))):=rfl;have h0:=h H R (E6.of (aj.refl _));rfl';refine ay ho T.aB T.dg rfl ?_;rfl';rw [qo];by_cases c1:openOn k n=true
  .rw [if_pos c1];rw [hc,c1] at h0;rfl';exact h0
  .rw [if_neg c1];have c1':openOn k n=false:=by simpa using c1
   rfl';refine br ho rfl ?_;rfl';refine #[M,a,A,k,n,rfl,R,?_];rfl';by_cases c2:rests k n=true
   .rw [if_pos c2];rw [hc,c1',c2] at h0;rfl';exact h0
   .rw [if_neg c2];have c2':rests k n=false:=by simpa using c2
    rfl';refine ay ho T.aB T.dM rfl ?_;rfl';rw [qs];by_cases c3:shutOn k n=true
    .rw [if_pos c3];rw [hc,c1',c2',c3] at h0;rfl';exact h0
    .rw [if_neg c3];have c3':shutOn k n=false:=by simpa using c3
     rfl';refine #[n,rfl,?_];rfl';have hy:=eJ n;have hy2:=ET n;refine br ho rfl ?_;rfl';refine #[M,a,A,k,yearOf n,rfl,R,hy,by omega,λH1 d R1 K1 hd=>?_];obtain ⟨kvd,ed,qd⟩:=hd;rfl';rw [qd];have h1':=h H1 R1 K1;by_cases c4:((feasts k (yearOf n)).any λx=>x.2==n)=true
     .rw [if_pos c4];rw [hc,c1',c2',c3',c4] at h1';rfl';exact h1'
     .rw [if_neg c4];have c4':((feasts k (yearOf n)).any λx=>x.2==n)=false:=Bool.eq_false_iff.mpr c4;rfl';by_cases c5:2000<yearOf n
      .rw [if_pos (by omega)];rfl';refine br R1.obj rfl ?_;rfl';refine #[M,a,A,k,yearOf n - 1,by rw [Int.ofNat_sub (by omega)];rfl,R1,by omega,by omega,λH2 d2 R2 K2 hd2=>?_];obtain ⟨kvd2,ed2,qd2⟩:=hd2;rfl';rw [qd2];have h2':=h H2 R2 (K1.trans K2);have c5':decide (FIRST<yearOf n)=true:=decide_eq_true c5;rw [hc,c1',c2',c3',c4',c5'] at h2';exact h2'
      .rw [if_neg (by omega)];rfl';have c5':decide (FIRST<yearOf n)=false:=decide_eq_false c5;rw [hc,c1',c2',c3',c4',c5'] at h1';exact h1'
theorem cK:al ["self","day","found"] ["self","day"] (ah (inClass (top 52) 6)):=by ext
noncomputable def iC (c:Cl):Sp:=Av λ(M:KE->Prop) (a:KE) (A:CA) (k:Calendar) (n:Nat) vs H Q _=>vs=[.ref a,.int n]/\bz c M H a A k/\n<=300000/\∀(H':Hp),bz c M H' a A k->jW A H H'->Q (.int (nextOpen k n:Nat)) H'
theorem cM (T:Tx):MO d8 11 c.Calendar "first_open_day" ["self","day"] (iC c):=by
 refine T.iJ.g T.aB cK (by ext) λ_ _ A _ _ H vs Q E hr h=>?_
 .obtain ⟨M,a,A,k,n,rfl,R,h1,h⟩:=h;have hu:=ir hr;exists (aa (aL (fh (mD hu (pv 1) (aq (pv 0) rfl)) rfl) (aa (bt 2 cK.nd (pv 1))
   (aa (gC Tb (c9 (bJ (pv 0) (cP T) hr.m bq (aV (pv 2)))) (ac (j_ (i:=2) cK.nd rfl (by first|exact Tk rfl|exact Tp rfl) ag nV)))
   (ac (gt hu (aq (pv 0) rfl) (pv 1) (pv 2) rfl)))) aC)
   (ac (am (oQ hu (aq (pv 0) rfl) (pv 1) (λ_ _=>rfl)))))
  have ho:=R.obj;obtain ⟨kvs,hno,hb,hv⟩:=R.no;rfl';refine ay ho T.aB T.bM rfl ?_;rfl';obtain ⟨d1,d2,d3,d4⟩:=DY R.ok n;cases e0:aY kvs (.inl (n:Int)) with
  |some v=>have ev:=hv n v e0;subst ev;rfl';refine ay ho T.aB T.bM rfl ?_;rfl';refine CI hno e0 ?_;rfl';exact h H R (jW.of (aj.refl _))
  |none=>
   generalize hd:nextOpen k n=d at d1 d2 d3 d4;rfl';refine lE (λm σ' H'=>(bz c M H' a A k/\jW A H H'/\H' A.no=some (.dK kvs))/\∃x:Nat,σ'=[some (.ref a),some (.int n),some (.int x)]/\n<=x/\x+m=d) (m0:=d - n) #[#[R,jW.of (aj.refl _),hno],n,rfl,Sf _,by omega] ?_;rintro m σ' H' ⟨⟨R1,K1,hno1⟩,x,rfl,hx,hm⟩;rfl';refine br R1.obj rfl ?_;rfl';refine #[M,a,A,k,x,rfl,R1,by omega,λH2 R2 K2=>?_];rfl';have hno2:H2 A.no=some (.dK kvs):=K2 _ _ hno1 λz=>R.ne z.symm;by_cases hxd:x<d
   .rw [if_pos (d4 x hx hxd)];refine #[λσ' H3=>H3=H2/\σ'=[some (.ref a),some (.int n),some (.int (x+1:Nat))],?_,?_]
    .rintro σ' H3 ⟨rfl,rfl⟩;exact #[m - 1,by omega,⟨R2,K1.trans K2.Mo,hno2⟩,x+1,rfl,by omega,by omega]
    .rfl';exact #[rfl,rfl]
   .have ex:x=d:=by omega
    subst ex;rw [if_neg (by rw [d3];simp)];obtain ⟨R3,K3⟩:=R2.OS hno2 (n:=n) (by omega) e0;rw [hd] at R3 K3;rfl';refine ay R2.obj T.aB T.bM rfl ?_;rfl';refine qu hno2 (Nat.lt_of_le_of_lt hb.len (by decide)) ?_;rfl';refine ay R3.obj T.aB T.bM rfl ?_;rfl';refine CI ae (by rw [d7,if_pos rfl]) ?_;rfl';have:=h _ R3 ((K1.trans K2.Mo).trans K3);rw [hd] at this;exact this
theorem eT:al ["self","day"] ["self","day"] (ah (inClass (top 52) 7)):=by ext
noncomputable def iL (c:Cl):Sp:=Av λ(M:KE->Prop) (a:KE) (A:CA) (k:Calendar) (n:Nat) vs H Q _=>vs=[.ref a,.int n]/\bz c M H a A k/\n<=300000/\∀(H':Hp),bz c M H' a A k->jW A H H'->Q (oV (lastOpen k n)) H'
theorem eU (T:Tx):MO d8 11 c.Calendar "last_open_day" ["self","day"] (iL c):=by
 refine T.jb.g T.aB eT (by ext) λ_ _ A _ _ H vs Q E hr h=>?_
 .obtain ⟨M,a,A,k,n,rfl,R,h1,h⟩:=h;have hu:=ir hr;exists (aa (gC Tb (PW.pt (sW (aA DD (pv 1) ag (aE _)) (oG (c9 (bJ (pv 0) (cP T) hr.m bq (aV (pv 1))))))) (ac (j_ (i:=1) eT.nd rfl (by first|exact Tk rfl|exact Tp rfl) ag FL)))
   (ac (am (oH (aA DD (pv 1) ag (aE _)) (pv 1) dv))))
  rfl';refine lE (λm σ' H'=>(bz c M H' a A k/\jW A H H')/\m<=n+1/\σ'=[some (.ref a),some (.int ((m:Int)- 1))]/\∀x,x<=n->m<=x->closed k x=true) (m0:=n+1) #[#[R,jW.of (aj.refl _)],Sf _,by simp;rfl,λx h1 h2=>by omega] ?_;rintro m σ' H' ⟨⟨R1,K1⟩,hm,rfl,hx⟩;rfl';cases m with
  |zero=>
   rw [if_neg (by omega)];rfl';rw [if_neg (by omega)];rfl';rcases yq R.ok n with ⟨d,e1,e2,e3,e4⟩|⟨e1,e2⟩
   .rw [hx d e2 (SW _)] at e3;cases e3
   .have:=h H' R1 K1;rw [e1] at this;exact this
  |succ m=>
   rw [if_pos (by omega)];have em:((m+1:Nat):Int)- 1=(m:Int):=by omega
   rw [em];rfl';refine br R1.obj rfl ?_;rfl';refine #[M,a,A,k,m,rfl,R1,by omega,λH2 R2 K2=>?_];rfl';cases hc:closed k m with
   |true=>
    rw [if_pos rfl];refine #[λσ' H3=>H3=H2/\σ'=[some (.ref a),some (.int ((m:Int)- 1))],?_,?_]
    .rintro σ' H3 ⟨rfl,rfl⟩;refine #[m,by omega,⟨R2,K1.trans K2.Mo⟩,by omega,rfl,λx h1 h2=>?_];by_cases e:x=m
     .rw [e];exact hc
     .exact hx x h1 (by omega)
    .rfl';exact #[rfl,rfl]
   |false=>
    rw [if_neg (by simp)];rfl';rw [if_pos (by omega)];rfl';rcases yq R.ok n with ⟨d,e1,e2,e3,e4⟩|⟨e1,e2⟩
    .have ed:d=m:=by
      refine S7 λz=>?_;by_cases c2:d<m
      .rw [e4 m (by omega) c2] at hc;cases hc
      .rw [hx d e2 (by omega)] at e3;cases e3
     have:=h H2 R2 (K1.trans K2.Mo);rw [e1,ed] at this;exact this
    .rw [e2 m (by omega)] at hc;cases hc
theorem c_:al ["self","day","count","step"] ["self","day","count"] (ah (inClass (top 52) 8)):=by ext
noncomputable def jt (c:Cl):Sp:=J9 λ(M:KE->Prop) (a:KE) (A:CA) (k:Calendar) (n j:Nat) vs H Q _=>vs=[.ref a,.int n,.int j]/\bz c M H a A k/\n<=200000/\j<=60/\∀(H':Hp),bz c M H' a A k->jW A H H'->Q (.int (kthOpen k j n:Nat)) H'
theorem e_ (T:Tx):MO d8 12 c.Calendar "kth_open_day" ["self","day","count"] (jt c):=by
 refine T.jE.g T.aB c_ (by ext) λ_ _ A _ _ H vs Q E hr h=>?_
 .obtain ⟨M,a,A,k,n,j,rfl,R,h1,h2,h⟩:=h;have hu:=ir hr;exists (aa (cp Tb rfl (wu rfl T.hX (aV (pv 2))) (bg (i:=3) c_.nd rfl (by first|exact Tk rfl|exact Tp rfl)) (ac (bt 1 c_.nd (bJ (pv 0) (cM T) hr.m bq (aV (az aP (pv 1) ag))))))
   (ac (am (pv 1))))
  walk_at "ro";refine #[by omega,by omega,kj (λi σ' H'=>(bz c M H' a A k/\jW A H H')/\∃(x:Nat) (v:Option V),σ'=[some (.ref a),some (.int x),some (.int j),v]/\x<=n+1000*i/\kthOpen k (j - i) x=kthOpen k j n) ⟨⟨R,jW.of (aj.refl _)⟩,n,none,rfl,by omega,rfl⟩ ?_ ?_]
  .rintro i σ' H' hi ⟨⟨R1,K1⟩,x,v,rfl,hx,hk⟩;have hi:i<j:=by simpa using hi
   walk_at "ro";refine #[_,_,R1.obj,rfl,M,a,A,k,x+1,by simp,R1,by omega,λH2 R2 K2=>?_];walk_at "ro";obtain ⟨d1,d2,_⟩:=DY R.ok (x+1);refine #[R2,K1.trans K2,nextOpen k (x+1),rfl,by omega,?_];rw [<-hk,show j - i=(j -(i+1))+1 from by omega];rfl
  .rintro σ' H' ⟨⟨R1,K1⟩,x,v,rfl,hx,hk⟩;walk_at "ro";have:=h H' R1 K1;rw [<-hk,show j -(j:Int).toNat=0 from by simp] at this;exact this
theorem cw:al ["self","first","last","day"] ["self","first","last"] (ah (inClass (top 52) 9)):=by ext
noncomputable def ig (c:Cl):Sp:=J9 λ(M:KE->Prop) (a:KE) (A:CA) (k:Calendar) (n m:Nat) vs H Q _=>vs=[.ref a,.int n,.int m]/\bz c M H a A k/\n<=m/\m<=n+400/\m<=200000/\
 ∀(H':Hp),bz c M H' a A k->jW A H H'->Q (.int (((SR (m+1 - n)).filter λi=>!closed k (n+i)).length:Nat)) H'
theorem ii (T:Tx):MO d8 11 c.Calendar "count_open_days" ["self","first","last"] (ig c):=by
 refine T.im.g T.aB cw (by ext) λ_ _ A _ _ H vs Q E hr h=>?_
 .obtain ⟨M,a,A,k,n,m,rfl,R,h1,h2,h3,h⟩:=h;have hu:=ir hr;exists (ac (am (aJ cu (by rfl) T.eQ S0 (aV (yb Gu rfl rfl rfl rfl cw.nd (mB rfl T.hX (cz (pv 1) (az aP (pv 2) ag))) (own:=[("day",3)]) (ok:=(#[rfl,by decide+kernel,by decide+kernel,by decide+kernel,by decide+kernel]:ni ["self","first","last","day"] (ah (inClass (top 52) 9)) _ [("day",3)])) (λ_ _ _ _ _ _=>bg (i:=3) cw.nd rfl (Tk rfl)) (λ_ _ _ _ _ _=>(Iz (xJ (c9 (bJ (pv 0) (cP T) hr.m bq (aV (pv 3))))))) (λ_ _ _ _ _ _ hpB=>(pv 3)))))));rw [Mn];walk_at "rd";refine #[by omega,by omega,by omega,by omega,λD hD=>?_];have en:((m:Int)+1 - n).toNat=m+1 - n:=by omega
  rw [en];refine wV (λi H'=>(bz c M H' a A k/\jW A H H')/\∃acc,H' D=some (.lst acc)/\acc.length=((SR i).filter λi=>!closed k (n+i)).length/\acc.length<=i) #[#[R.same (aj.upd hD),jW.of (aj.upd hD)],[],ae,rfl,Sf _] ?_ ?_
  .rintro i H' hi ⟨⟨R1,K1⟩,acc,ha,hl,hl2⟩;walk_at "rd";refine #[rfl,_,rfl,a,rfl,_,_,R1.obj,rfl,_,rfl,M,a,A,k,n+i,by simp,R1,by omega,λH2 R2 K2=>?_];have ha2:H2 D=some (.lst acc):=K2 _ _ ha (aX ha (R1.cl.choose_spec.1) nofun);have er:((SR (i+1)).filter λi=>!closed k (n+i)).length=((SR i).filter λi=>!closed k (n+i)).length+(if closed k (n+i)=true then 0 else 1):=by
    rw [Uq,List.filter_append,Sq];congr 1;by_cases hc:closed k (n+i)=true
    .rw [if_pos hc,Tf (by simp [hc])];rfl
    .rw [if_neg hc,TW (by simpa using hc)];rfl
   refine #[_,rfl,?_];by_cases hc:closed k (n+i)=true
   .rw [if_neg (by simp [hc])];rw [if_pos hc] at er;exact #[R2,K1.trans K2.Mo,acc,ha2,by rw [er,hl];rfl,by omega]
   .rw [if_pos (by simpa using hc)];rw [if_neg hc] at er;refine #[_,rfl,acc,ha2,aI (by omega),R2.other ha2 (R.new hD),λb o e n1 n2=>?_,_,ae,?_,?_]
    .rw [ai (ak e hD)];exact (K1.trans K2.Mo) b o e n1 n2
    .rw [Sq,er,hl];rfl
    .rw [Sq];simp;omega
  .rintro H' ⟨⟨R1,K1⟩,acc,ha,hl,hl2⟩;walk_at "ro";refine #[_,.inl (cB.of ha),?_];rw [hl];exact h H' R1 K1
structure pR (H:Hp) (p C dx:KE) (fs:List (Str×V)) (H':Hp) (made:List (KE×HO)):Prop where
 here:∃o,H p=some o
 kp:∀b o,H b=some o->b≠p->H' b=some o
 at_:H' p=some (.ins C dx fs)
 all:∀x∈made,H x.1=none/\x.1≠p/\H' x.1=some x.2
 nd:(made.map (·.1)).Nodup
theorem pR.start (h:H p=some (.ins C dx [])):pR H p C dx [] H []:=#[#[_,h],λb o e _=>e,h,λx hx=>(nomatch hx),.nil]
theorem pR.set (m:pR H p C dx fs H' made) (f:Str) (v:V):pR H p C dx (gD f v fs) (upd H' p (.ins C dx (gD f v fs))) made:=
 #[m.here,λb o e n=>by rw [ai n];exact m.kp b o e n,ae,λx hx=>let ⟨a,b,c⟩:=m.all x hx;⟨a,b,by rw [ai b];exact c⟩,m.nd]
theorem pR.new (m:pR H p C dx fs H' made) (hq:H' q=none) (o:HO):pR H p C dx fs (upd H' q o) ((q,o)::made):=by
 have npq:p≠q:=λe=>by rw [<-e,m.at_] at hq;cases hq
 have hq0:H q=none:=by
  cases e:H q with
  |none=>rfl
  |some u=>rw [m.kp q u e λz=>npq z.symm] at hq;cases hq
 refine #[m.here,λb u e n=>?_,by rw [ai npq];exact m.at_,λx hx=>?_,?_]
 .rw [ai (ak e hq0)];exact m.kp b u e n
 .rcases (Sg).mp hx with rfl|hx
  .exact #[hq0,λz=>npq z.symm,ae]
  .obtain ⟨a,b,c⟩:=m.all x hx;exact #[a,b,by rw [ai (ak c hq)];exact c]
 .rw [S1,TH];refine #[λz=>?_,m.nd];obtain ⟨x,hx,e⟩:=(Te).mp z;obtain ⟨_,_,c⟩:=m.all x hx;rw [e,hq] at c;cases c
theorem pR.seti {n:Int} (m:pR H0 p C dx fs H made) (e:σ[0]? =some (some (V.ref p))) (c:kW K C) (a:aO K C f) (l:fs.length<1000) (q:∀H',pR H0 p C dx (gD f (.int n) fs) H' made->D.nx σ H'):ED K (nU 0) (tC (.int n)) f D σ H:=#[_,e,p,C,dx,fs,rfl,m.at_,c,a,l,q _ (m.set f _)]
theorem pR.setd (m:pR H0 p C dx fs H made) (e:σ[0]? =some (some (V.ref p))) (c:kW K C) (a:aO K C f) (l:fs.length<1000) (q:∀d H',pR H0 p C dx (gD f (.ref d) fs) H' ((d,.dK [])::made)->D.nx σ H'):ED K (nU 0) x8 f D σ H:=λd h=>have m:=m.new h (.dK []);⟨_,e,p,C,dx,fs,rfl,m.at_,c,a,l,q _ _ (m.set f _)⟩
theorem pR.setl (m:pR H0 p C dx fs H made) (e:σ[0]? =some (some (V.ref p))) (c:kW K C) (a:aO K C f) (l:fs.length<1000) (q:∀d H',pR H0 p C dx (gD f (.ref d) fs) H' ((d,.lst [])::made)->D.nx σ H'):ED K (nU 0) (F1 ly) f D σ H:=#[SW _,λd h=>have m:=m.new h (.lst []);⟨_,e,p,C,dx,fs,rfl,m.at_,c,a,l,q _ _ (m.set f _)⟩]
theorem l7:al ["self"] ["self"] (ah (inClass (top 52) 0)):=by ext
noncomputable def A1 (c:Cl):Sp:=Jf λ(p dx:KE) vs H Q _=>vs=[.ref p]/\H p=some (.ins c.Calendar dx [])/\
 ∀(H':Hp) (A:CA),(∀b o,H b=some o->b≠p->H' b=some o)->A.dx=dx->(∀b,(b=A.r\/b=A.f\/b=A.s\/b=A.o\/b=A.cl\/b=A.no)->H b=none)->[A.r,A.s,A.o,A.cl,A.no].Nodup->
  H' p=some (.ins c.Calendar A.dx (l6 0 A))->H' A.r=some (.dK [])->H' A.f=some (.lst [])->H' A.s=some (.dK [])->H' A.o=some (.dK [])->H' A.cl=some (.dK [])->H' A.no=some (.dK [])->Q .bZ H'
theorem rg (T:Tx):KO d8 1 c.Calendar "Calendar" ["self"] (A1 c):=by
 refine T.BV.g T.zA l7 (by ext) λ_ _ _ _ _ H vs Q E hr h=>?_
 .obtain ⟨p,dx,rfl,hp,k⟩:=h;exists (aa (a9 (pv 0) ag rfl)
   (aa (a9 (pv 0) eY rfl)
   (aa (a9 (pv 0) (aQ fi) rfl)
   (aa (a9 (pv 0) eY rfl)
   (aa (a9 (pv 0) eY rfl)
   (aa (a9 (pv 0) eY rfl)
   (ac (a9 (pv 0) eY rfl))))))))
  refine tL ((pR.start hp).seti rfl T.aB T.dL (by show 0<1000;decide) λH0 m0=>?_);replace m0:pR H p _ dx [("sentences",.int 0)] H0 _:=m0;refine CD ?_;refine tL (m0.setd rfl T.aB T.bT (by show 1<1000;decide) λar H1 m1=>?_);replace m1:pR H p _ dx [("sentences",.int 0),("rest_weekdays",.ref ar)] H1 _:=m1;refine CD ?_;refine tL (m1.setl rfl T.aB T.dt (by show 2<1000;decide) λaf H2 m2=>?_);replace m2:pR H p _ dx [("sentences",.int 0),("rest_weekdays",.ref ar),("feasts",.ref af)] H2 _:=m2;refine CD ?_;refine tL (m2.setd rfl T.aB T.dM (by show 3<1000;decide) λas H3 m3=>?_);replace m3:pR H p _ dx [("sentences",.int 0),("rest_weekdays",.ref ar),("feasts",.ref af),("shut_days",.ref as)] H3 _:=m3;refine CD ?_;refine tL (m3.setd rfl T.aB T.dg (by show 4<1000;decide) λao H4 m4=>?_);replace m4:pR H p _ dx [("sentences",.int 0),("rest_weekdays",.ref ar),("feasts",.ref af),("shut_days",.ref as),("opened_days",.ref ao)] H4 _:=m4;refine CD ?_;refine tL (m4.setd rfl T.aB T.b7 (by show 5<1000;decide) λacl H5 m5=>?_);replace m5:pR H p _ dx [("sentences",.int 0),("rest_weekdays",.ref ar),("feasts",.ref af),("shut_days",.ref as),("opened_days",.ref ao),("closings",.ref acl)] H5 _:=m5;refine CD ?_;refine m5.setd rfl T.aB T.bM (by show 6<1000;decide) λano H6 m6=>?_;replace m6:pR H p _ dx [("sentences",.int 0),("rest_weekdays",.ref ar),("feasts",.ref af),("shut_days",.ref as),("opened_days",.ref ao),("closings",.ref acl),("next_opens",.ref ano)] H6 _:=m6;refine NE ?_;have b6:=m6.all _ (.head _);have b5:=m6.all _ (.tail _ (.head _));have b4:=m6.all _ (.tail _ (.tail _ (.head _)));have b3:=m6.all _ (.tail _ (.tail _ (.tail _ (.head _))));have b2:=m6.all _ (.tail _ (.tail _ (.tail _ (.tail _ (.head _)))));have b1:=m6.all _ (.tail _ (.tail _ (.tail _ (.tail _ (.tail _ (.head _))))));refine k _ #[dx,ar,af,as,ao,acl,ano] m6.kp rfl ?_ ?_ m6.at_ b1.2.2 b2.2.2 b3.2.2 b4.2.2 b5.2.2 b6.2.2
  .rintro b (rfl|rfl|rfl|rfl|rfl|rfl)
   .exact b1.1
   .exact b2.1
   .exact b3.1
   .exact b4.1
   .exact b5.1
   .exact b6.1
  .exact List.Pairwise.sublist (.cons_cons _ (.cons _ (.refl _))) ((List.pairwise_reverse (l:=[ano,acl,ao,as,af,ar])).mpr (List.Pairwise.imp Ne.symm m6.nd))
end
end OL
namespace OL
open PySem VbptaaCore Vbptaa OLm
noncomputable def S (t:SV):Str:=#[t.toArray]
theorem kJ (t:SV):(S t).cps.toList=t:=by simp [S]
theorem eV (t:SV):(S t).length=t.length:=by simp [S,Str.length]
theorem A3 (h:S a=S b):a=b:=by have:=congrArg (λz:Str=>z.cps.toList) h;simpa [kJ] using this
theorem OT (z:Str):z=S z.cps.toList:=by cases z;simp [S]
theorem dm (s:String):Sj s=S (ascii s):=by rw [OT (Sj s),PyProof.Rows.signs_ofString];rfl
theorem Hl (c:Nat):∀ps:List SV,Str.join ⟨[c].toArray⟩ (ps.map S)=S (joined c ps)
 |[]=>rfl
 |[a]=>rfl
 |a::b::l=>by show S a++(⟨[c].toArray⟩:Str)++Str.join ⟨[c].toArray⟩ ((b::l).map S)=S (a++(c::joined c (b::l)));rw [Hl c (b::l)];apply Str.ext';show (a.toArray++ [c].toArray)++(joined c (b::l)).toArray=(a++(c::joined c (b::l))).toArray;simp
theorem OU (l:List Str):∃ps:List SV,l=ps.map S:=by
 refine #[l.map λz=>z.cps.toList,?_];rw [T2]
 conv=>lhs;rw [<-List.map_id l]
 refine List.map_congr_left λz _=>?_;exact OT z
theorem yJ (c:Nat) (t:SV):Uu (S t) #[[c].toArray]=(cut c t).map S:=by
 obtain ⟨ps,e⟩:=OU (Uu (S t) #[[c].toArray]);have h1:=StrLaws.join_split (S t) #[[c].toArray];have h2:=StrLaws.split_free (S t) c;have h3:=PyProof.Rows.split_pos (S t) #[[c].toArray];rw [e] at h1 h2 h3 ⊢;rw [Hl] at h1;have hne:ps≠[]:=λz=>by rw [z] at h3;simp at h3
 have hfree:∀p∈ps,c∉p:=λp hp=>by
  have:=h2 (S p) ((Te).mpr #[p,hp,rfl])
  rwa [kJ] at this
 rw [<-A3 h1,t_ c ps hne hfree]
theorem D7 (t p:SV) (i:Nat):Builtin.Str.subAt (S t) (S p) i=((t.drop i).take p.length==p):=by unfold Builtin.Str.subAt;rw [eV];show (t.toArray.extract i (i+p.length)==p.toArray)=_;rw [TV,beq_iff_eq,beq_iff_eq];rw [<-Array.toList_inj,Array.toList_extract];simp [List.extract_eq_take_drop]
theorem on (h:begins p t=true):p.length<=t.length:=by have:=congrArg T7 (gg h);rw [Sq] at this;omega
theorem pp (t p:SV):Uk (S t) (S p)=begins p t:=by
 unfold Uk
 rw [D7,eV,eV,List.drop_zero];by_cases h:begins p t=true
 .have:=on h;have h':(t.take p.length==p)=true:=h;rw [h,h'];simp;omega
 .have h':(t.take p.length==p)=false:=by simpa [begins] using h
  rw [h',Ub];simpa using h
theorem vJ (t p:SV) (i:Nat) (hi:i<=t.length):UD (S t) (S p) i=begins p (t.drop i):=by
 unfold UD;have hf:fromIndex t.length (i:Int)=i:=by unfold fromIndex;rw [if_neg (by omega)];omega
 rw [D7,eV,eV,hf];by_cases h:begins p (t.drop i)=true
 .have:=on h;rw [SQ] at this;have h':((t.drop i).take p.length==p)=true:=h;rw [h,h'];simp;omega
 .have h':((t.drop i).take p.length==p)=false:=by simpa [begins] using h
  rw [h',Ub];simpa using h
theorem rh:∀c:Nat,c<128->Unicode.isDigit c=SJ c:=by decide+kernel
theorem wW (h:∀c∈t,c<128):Txt.isdigit (S t)=(!t.isEmpty&&t.all SJ):=by
 unfold Txt.isdigit;rw [eV];have e:(S t).cps.all Unicode.isDigit=t.all SJ:=by
  show t.toArray.all Unicode.isDigit=_;rw [List.all_toArray,TV,Th,Th];constructor
  .intro q c hc;rw [<-rh c (h c hc)];exact q c hc
  .intro q c hc;rw [rh c (h c hc)];exact q c hc
 rw [e];cases t<;>simp
theorem E7 (h1:t≠[]) (h2:t.all SJ=true) (h3:t.length<=4300):intText? (S t)=some ((val t:Nat):Int):=by
 have:=intText_digits (x:=S t) (by rw [kJ];intro c hc;exact (gG c).mp ((Th).mp h2 c hc)) (by rw [kJ];exact h1) (by rw [eV];exact h3)
 rw [this,kJ];congr 2;unfold NumText.digitsVal val;congr 1;funext a c;rw [Nat.mul_comm]
end OL
namespace OL
open PySem PySem.Spec PyProof.Rows L2 VbptaaCore Vbptaa OLm open OL renaming xP->P,xw->w,xK->K,xM->mg,xB->base,xC->c
theorem Hm (Pv:Nat->L2.St->Hp->Prop) (h0:Pv 0 σ H)
 (hs:∀i c σ H,x.cps.toList[i]? =some c->Pv i σ H->g (.str ⟨[c].toArray⟩) σ H λσ2 H2=>tb {D with nx:=Pv (i+1),ct:=Pv (i+1),bk:=D.nx} σ2 H2) (hd:∀σ H,Pv x.cps.toList.length σ H->D.nx σ H):Ak (NC x) g tb D σ H:=by
 refine #[λi m σ H=>m=x.cps.toList.length - i/\i<=x.cps.toList.length/\Pv i σ H,#[_,rfl,SW _,h0],?_];rintro i m σ H ⟨rfl,hi,p⟩;by_cases hlt:i<x.cps.toList.length
 .refine .inr #[(by simpa using hlt:i<x.cps.size),Pv (i+1),λσ' H' h=>#[x.cps.toList.length -(i+1),by omega,rfl,hlt,h],λv H' hx=>?_];obtain ⟨rfl,d,hc,rfl⟩:H'=H/\∃d,x.cps[i]? =some d/\v= .str ⟨[d].toArray⟩:=hx;exact hs i d σ H' (by simpa using hc) p
 .have e:i=x.cps.toList.length:=by omega
  subst e;exact .inl #[(by simp:x.cps.size<=x.cps.toList.length),hd σ H p]
theorem A5 {K:UT} {a:KE} {xs:List V} {g:TG} {tb:TS} {D:Ends} {σ:L2.St} {H:Hp} (Pv:Nat->L2.St->Hp->Prop) (h0:Pv 0 σ H) (hl:∀i σ H,i<=xs.length->Pv i σ H->ij K H a xs)
 (hs:∀i x σ H,xs[i]? =some x->Pv i σ H->g x σ H λσ2 H2=>tb {D with nx:=Pv (i+1),ct:=Pv (i+1),bk:=D.nx} σ2 H2) (hd:∀σ H,Pv xs.length σ H->D.nx σ H):Ak (JS K a) g tb D σ H:=Ig Pv h0 hl hs hd
theorem OV {vs:List Nat} (h:wi σ H λJ H1=>∀D,H1 D=none->PQ J g t te vs D σ Q H1):M8 wi g t te vs σ H Q:=h
local macro_rules| `(tactic|ext)=>`(tactic|exact #[rfl,rfl,rfl,by decide+kernel,rfl,by decide+kernel,by decide+kernel])
local macro_rules| `(tactic|ext)=>`(tactic|(intro vs H Q E h;cases (h);rename_i h;obtain ⟨e,_⟩:=h;subst e;exact rfl))
noncomputable def SG:SV:=ascii " (),+-/0123456789;abcdefghijklmnopqrstuvwxyz"
theorem Kc:∀c∈SG,c<128:=by decide
theorem OW:SG.Nodup:=by decide
noncomputable abbrev nI (n:Nat):V:=.int (n:Int)
theorem OX:∀t:SV,Txt.join (Sj "") (t.map λn=>S [n])=S t:=by
 intro t;show Builtin.Str.glued _ _=_;rw [StrLaws.glued_eq_join];induction t with
 |nil=>rfl
 |cons a l ih=>
  cases l with
  |nil=>rfl
  |cons b l=>
   show S [a]++Sj "" ++Str.join (Sj "") ((b::l).map λn=>S [n])=_;rw [ih];apply Str.ext';show ([a].toArray++(Sj "").cps)++(b::l).toArray=(a::b::l).toArray;have e:(Sj "").cps= #[]:=by decide
   rw [e];simp
theorem ee {α β:Type} {f:α->β} {l:List α} {i:Nat} {y:β} (h:(l.map f)[i]? =some y):∃a,l[i]? =some a/\y=f a:=by
 rw [SO] at h;cases e:l[i]? with
 |none=>rw [e] at h;cases h
 |some a=>rw [e] at h;exact #[a,rfl,(Sd h).symm]
theorem fv {α:Type} {l:List α} {i:Nat} {a:α} (h:l[i]? =some a):a∈l:=SE h
noncomputable def ju (t:SV):Prop:=t.length<=800/\∀c∈t,c<128
theorem ju.sl (h:ju t):(S t).length+2<=sizeLine:=by
 rw [eV];have:=h.1;have:802<=sizeLine:=by decide
 omega
theorem ju.sz (h:ju t):(S t).length<=sizeLine:=by have:=h.sl;omega
theorem ju.sub (h:ju t) (l:p.length<=t.length) (m:∀c∈p,c∈t):ju p:=#[by have:=h.1;omega,λc hc=>h.2 c (m c hc)]
theorem yK (c:Nat):∀(t p:SV),p∈cut c t->p.length<=t.length/\∀x∈p,x∈t
 |[],p,h=>by
  have:p=[]:=by simpa [cut] using h
  subst this;exact #[Sf _,λx h=>nomatch h]
 |a::t,p,h=>by
  have ih:=λq hq=>yK c t q hq;unfold cut at h;split at h
  .rename_i e;exact absurd e (qw c t)
  .rename_i q r e;rw [e] at ih;split at h
   .rcases (Sg).mp h with rfl|h
    .exact #[SW _,λx h=>nomatch h]
    .obtain ⟨i1,i2⟩:=ih p h;exact #[by rw [Si];omega,λx hx=>Sh _ (i2 x hx)]
   .rcases (Sg).mp h with rfl|h
    .obtain ⟨i1,i2⟩:=ih q Sk;refine #[by rw [Si,Si];omega,λx hx=>?_];rcases (Sg).mp hx with rfl|hx
     .exact Sk
     .exact Sh _ (i2 x hx)
    .obtain ⟨i1,i2⟩:=ih p (Sh _ h);exact #[by rw [Si];omega,λx hx=>Sh _ (i2 x hx)]
theorem ju.cut {c:Nat} (h:ju t) (m:p∈Vbptaa.cut c t):ju p:=h.sub (yK c t p m).1 (yK c t p m).2
section
theorem gk:al ["codes","known","sign","code"] ["codes"] (ah (top 62)):=by ext
noncomputable def C_ (c:Cl):Sp:=Jf λ(p:KE) (t:SV) vs H Q E=>vs=[.ref p]/\H p=some (.lst (t.map nI))/\t.length<=800/\(∀H',aj H H'->(∀c∈t,c∈SG)->Q (.str (S t)) H')/\(∀H',aj H H'->¬(∀c∈t,c∈SG)->E (.ref c.bp) none H')
noncomputable def sC (i:Nat) (kvs:List (Key×V)):Prop:=kvs.length<=i/\∀n:Nat,aY kvs (.inl (n:Int))=if n∈SG.take i then some (.str (S [n])) else none
theorem sC.put {i x:Nat} (h:sC i kvs) (e:SG[i]? =some x):sC (i+1) (putK kvs (.inl (x:Int)) (.str #[[x].toArray])):=by
 have hx:x∉SG.take i:=λz=>by have nd:=OW;rw [<-Uc i SG,List.nodup_append] at nd;refine nd.2.2 x z x ?_ rfl;exact SE (i:=0) (by rw [Um];simpa using e)
 have h0:aY kvs (.inl (x:Int))=none:=by rw [h.2 x,if_neg hx]
 refine #[by rw [oP _ h0,Sq];have:=h.1;simp;omega,λn=>?_];rw [d7,take_snoc e];by_cases z:n=x
 .subst z;rw [if_pos rfl,if_pos (by simp)];rfl
 .rw [if_neg (λy=>z (by have:=Ui y;omega)),h.2 n];simp [z]
theorem uh (T:Tx):FO (cf P w) 1 "as_text" ["codes"] (C_ c):=by
 refine T.Ei.gX gk (by ext) λ_ _ _ _ _ H vs Q E hr h=>?_;obtain ⟨p,t,rfl,hp,hl,k1,k2⟩:=h;have hu:=ir hr;exists (aa (bt 1 gk.nd eY)
  (aa (cp Ta rfl (Lf (gS T.HU rfl)) (bg (i:=2) gk.nd rfl (by first|exact Tk rfl|exact Tp rfl)) (ac (gt hu (pv 1) (aJ LR (by rfl) T.Na PyProof.Rows.boot_ord (aV (pv 2))) (pv 2) rfl)))
  (aa (cp Ta rfl (cb (pv 0)) (bg (i:=3) gk.nd rfl (by first|exact Tk rfl|exact Tp rfl)) (ac (aL (fh (mD hu (pv 3) (pv 1)) rfl) (ac (bw newX rfl rfl T.bu T.bn)) aC)))
  (ac (am (IT bv (yb (E:=E) DL rfl rfl rfl rfl gk.nd (cb (pv 0)) (own:=[("code",3)]) (ok:=(#[rfl,by decide+kernel,by decide+kernel,by decide+kernel,by decide+kernel]:ni ["codes","known","sign","code"] (ah (top 62)) _ [("code",3)])) (λ_ _ _ _ _ _=>bg (i:=3) gk.nd rfl (Tk rfl)) (λ_ _ _ _ _ _=>oO) (λ_ _ _ _ _ _ hpB=>(oQ hu (pv 1) (pv 3) (λ_ _=>rfl))))))))))
 rfl';intro d hd;rfl';have hp0:aj H (upd H d (.dK [])):=aj.upd hd;have eS:(Sj " (),+-/0123456789;abcdefghijklmnopqrstuvwxyz").cps.toList=SG:=by rw [dm,kJ];rfl
 refine Hm (λi σ' H'=>(aj H H'/\∃kvs,H' d=some (.dK kvs)/\sC i kvs)/\∃b v,σ'=[some (.ref p),some (.ref d),v,b]) #[#[hp0,[],ae,Sf _,λn=>rfl],_,_,rfl] ?_ ?_
 .rintro i x σ' H' hx ⟨⟨hs,kvs,hk,kn⟩,b,v,rfl⟩;rw [eS] at hx;rfl';refine #[_,rfl,rfl,?_];rfl';refine qu (n:=(x:Nat)) hk (aI (by have:=kn.1;have:i<SG.length:=((Sl).mp hx).1;have:SG.length=44:=(by decide);omega)) ?_;refine #[#[λy o e=>?_,_,ae,kn.put hx],_,_,rfl];rw [ai (ak e hd)];exact hs y o e
 .rintro σ' H' ⟨⟨hs,kvs,hk,kn⟩,b,v,rfl⟩;rw [eS] at kn;have kn2:∀n:Nat,aY kvs (.inl (n:Int))=if n∈SG then some (.str (S [n])) else none:=λn=>by rw [kn.2 n,SX]
  have hp1:=hs p _ hp;rfl';refine bR (xs:=t.map nI) (λi σ' H2=>H2=H'/\(∀x∈t.take i,x∈SG)/\∃b v,σ'=[some (.ref p),some (.ref d),v,b]) #[rfl,(by simp),_,_,rfl] (λi σ' H' _ h=>by obtain ⟨rfl,_⟩:=h;exact cB.of hp1) ?_ ?_
  .rintro i y σ' H2 hy ⟨rfl,hin,b,v,rfl⟩;obtain ⟨n,hn,rfl⟩:=ee hy;rfl';rw [kn2 n];by_cases z:n∈SG
   .rw [if_pos z];refine #[rfl,λx hx=>?_,_,_,rfl];rw [take_snoc hn] at hx;rcases (SU).mp hx with hx|hx
    .exact hin x hx
    .rw [(SB).mp hx];exact z
   .rw [if_neg z];rfl';exact k2 _ hs λq=>z (q n (fv hn))
  .rintro σ' H2 ⟨rfl,hin,b,v,rfl⟩;rw [w4,SX] at hin;rfl';intro D hD;refine pk (xs:=t.map nI) (λi H'=>aj H2 H'/\H' D=some (.lst (((t.take i).map λn=>S [n]).map V.str))) #[aj.upd hD,ae] (λi H' _ h=>cB.of (h.1 _ _ hp1)) ?_ ?_
   .rintro i y H' hy ⟨hs2,hD2⟩;obtain ⟨n,hn,rfl⟩:=ee hy;have hin2:=hin n (fv hn);rfl';refine #[rfl,?_];rfl';refine CI (n:=(n:Nat)) (hs2 _ _ hk) (by rw [kn2 n,if_pos hin2]) ?_;refine #[_,hD2,aI (by rw [w4,w4,S8];omega),λb o e=>?_,?_]
    .rw [ai (ak e hD)];exact hs2 b o e
    .rw [ae,take_snoc hn,Sw,Sw];rfl
   .rintro H' ⟨hs2,hD2⟩;rw [w4,SX] at hD2;refine LY (ys:=t.map λn=>S [n]) (cB.of hD2) ?_ ?_
    .have e0:∀l:SV,((l.map λn=>S [n]).map (·.length)).sum=l.length:=λl=>by
      induction l with
      |nil=>rfl
      |cons a l ih=>rw [S1,S1,List.sum_cons,ih,eV,Si];simp;omega
     rw [e0];show t.length+_*0<=_;omega
    .rw [OX];exact k1 _ (hs.trans hs2) hin
theorem l8:al ["word","low","high","number"] ["word","low","high"] (ah (top 63)):=by ext
noncomputable def l9 (c:Cl):Sp:=Fu λ(t:SV) (lo hi:Nat) vs H Q E=>vs=[.str (S t),.int lo,.int hi]/\ju t/\(∀n:Nat,num lo hi t=some n->Q (.int n) H)/\(num lo hi t=none->E (.ref c.bp) none H)
theorem str0:(Sj "0")=S [48]:=by rw [dm];rfl
theorem bx (T:Tx):FO (cf P w) 1 "read_number" ["word","low","high"] (l9 c):=by
 refine T.vg.gX l8 (by ext) λ_ _ _ _ _ H vs Q E hr h=>?_;obtain ⟨t,lo,hi,rfl,ha,k1,k2⟩:=h;exists (aa (aL (PW.pt (nh (xJ (c9 (JX PySem.F.slot_str_isdigit PySem.F.type_str_isdigit tO (pv 0)))) (jf (c9 (Af Up Uo jh (pv 0) bv))))) (ac (bw newX rfl rfl T.bu T.bn)) aC)
  (aa (bt 3 l8.nd (ik (LS T.PU T.Nf) (by rfl) T.Nb PyProof.Rows.boot_int (aV (pv 0))))
  (aa (aL (PW.pt (nh (aA sZ (pv 3) (pv 1) (aE _)) (jf (aA iP (pv 3) (pv 2) (aE _))))) (ac (bw newX rfl rfl T.bu T.bn)) aC)
  (ac (am (pv 3))))))
 rfl';rw [wW ha.2];cases e1:(!t.isEmpty&&t.all SJ) with
 |false=>rfl';refine k2 (if_neg λz=>?_);rw [z.1.2] at e1;have:=z.1.1;simp [this] at e1
 |true=>
  have e2:t≠[]/\t.all SJ=true:=by rw [S9] at e1;refine #[λz=>?_,e1.2];rw [z] at e1;simp at e1
  rfl';have eb:Uk (S t) (Sj "0")=begins [48] t:=by rw [str0];exact pp t [48]
  rw [eb];have eh:begins [48] t=true↔t.head? =some 48:=by
   cases t with
   |nil=>exact absurd rfl e2.1
   |cons a l=>simp [begins]
  cases e3:begins [48] t with
  |true=>rfl';exact k2 (if_neg λz=>z.2.1 (eh.mp e3))
  |false=>
   have e4:t.head?≠some 48:=λz=>by rw [eh.mpr z] at e3;cases e3
   have hd:∀c∈(S t).cps.toList,c=45\/(48<=c/\c<=57):=λc hc=>by rw [kJ] at hc;exact .inr ((gG c).mp ((Th).mp e2.2 c hc))
   rfl';have hl4:t.length<=4300:=SA ha.1 (by decide);refine LZ (E7 e2.1 e2.2 hl4) (by rw [eV];exact hl4) (by rw [(numText_signs hd).2];simp [Str.length]) ?_;rfl';by_cases c1:((val t:Nat):Int)<lo
   .rw [if_pos c1];rfl';exact k2 (if_neg λz=>by have:=z.2.2.1;omega)
   .rw [if_neg c1];rfl';by_cases c2:(hi:Int)<(val t:Nat)
    .rw [if_pos c2];rfl';exact k2 (if_neg λz=>by have:=z.2.2.2;omega)
    .rw [if_neg c2];rfl';exact k1 _ (if_pos #[e2,e4,by omega,by omega])
end
noncomputable abbrev sS (t:SV):V:=.str (S t)
theorem Da (l:List SV):(l.map S).map V.str=l.map sS:=by rw [T2];rfl
theorem bU {lo hi:Nat} (h1:1<=lo) (h2:hi<100000) {o:Option Nat} (h:num lo hi t=o):number lo hi t=o:=(jO h1 h2 t).trans h
section
theorem yL:al ["word"] ["word"] (ah (top 76)):=by ext
noncomputable def yM (c:Cl):Sp:=yj λ(t:SV) vs H Q E=>vs=[.str (S t)]/\ju t/\(∀n:Nat,num 2000 2399 t=some n->Q (.int n) H)/\(num 2000 2399 t=none->E (.ref c.bp) none H)
theorem pq (T:Tx):FO (cf P w) 2 "read_year" ["word"] (yM c):=by refine T.zF.gX yL (by ext) λ_ _ _ _ _ H vs Q E hr h=>?_;obtain ⟨t,rfl,ha,k1,k2⟩:=h;exists (ac (am (bK (bx T) hr.m (dH (pv 0) (gI 2000 T.fE rfl) (gI 2399 T.gc rfl)))));rfl';exact #[t,2000,2399,rfl,ha,k1,k2]
theorem rY:al ["word"] ["word"] (ah (top 77)):=by ext
noncomputable def rZ (c:Cl):Sp:=yj λ(t:SV) vs H Q E=>vs=[.str (S t)]/\(∀n:Nat,weekdayOf t=some n->Q (.int n) H)/\(weekdayOf t=none->E (.ref c.bp) none H)
theorem Q8 (a b:SV):zm (.str (S a)) (.str (S b))=decide (a=b):=by
 show (S a==S b)=_;by_cases h:a=b
 .subst h;simp
 .rw [decide_eq_false h,beq_eq_false_iff_ne];exact λz=>h (A3 z)
theorem Hn (t:SV) (l:List SV):Iv (.str (S t)) (l.map sS)=l.contains t:=by
 unfold Iv;induction l with
 |nil=>rfl
 |cons a l ih=>
  rw [S1,Uh,ih,show zm (sS a) (.str (S t))=decide (a=t) from Q8 a t,List.contains_cons];by_cases h:a=t
  .subst h;simp
  .have h':(t==a)=false:=beq_eq_false_iff_ne.mpr λz=>h z.symm;rw [decide_eq_false h,h']
theorem yN (l:List SV):(l.map sS).all fV=true:=by
 induction l with
 |nil=>rfl
 |cons a l ih=>rw [S1,List.all_cons,ih];rfl
theorem OY:[V.str "mon",.str "tue",.str "wed",.str "thu",.str "fri",.str "sat",.str "sun"]=WEEKDAYS.map sS:=by unfold sS;show _=[V.str (S (ascii "mon")),.str (S (ascii "tue")),.str (S (ascii "wed")),.str (S (ascii "thu")),.str (S (ascii "fri")),.str (S (ascii "sat")),.str (S (ascii "sun"))];simp only [<-dm]
theorem gY (T:Tx):FO (cf P w) 1 "read_weekday" ["word"] (rZ c):=by
 refine T.sM.gX rY (by ext) λ_ _ _ _ _ H vs Q E hr h=>?_;obtain ⟨t,rfl,k1,k2⟩:=h;obtain ⟨aw,h_WEEKDAYS,hW⟩:=T.B0;exists (aa (aL (aA oK (pv 0) (gR h_WEEKDAYS rfl) rfl) (ac (bw newX rfl rfl T.bu T.bn)) aC)
  (ac (am (dG PySem.F.plainAttrs_tuple PySem.F.slot_tuple_index PySem.F.type_tuple_index EN (gR h_WEEKDAYS rfl) (aV (pv 0))))))
 rfl';have hw:=hW H;rw [OY] at hw;refine GB hw rfl (yN _) ?_;rw [Hn];unfold weekdayOf at k1 k2;cases e:WEEKDAYS.contains t with
 |false=>rw [e] at k2;rfl';exact k2 rfl
 |true=>
  rw [e] at k1;rfl';refine #[.inr (.inl #[rfl,T.zV _ h_WEEKDAYS]),?_];rfl';have hm:t∈WEEKDAYS:=(TB).mp e;have hlt:WEEKDAYS.idxOf t<WEEKDAYS.length:=List.idxOf_lt_length_of_mem hm;refine #[_,_,_,WEEKDAYS.idxOf t,sS t,rfl,rfl,hw,rfl,yN _,?_,?_,λm z hm hz=>?_,k1 _ (by simp)]
  .rw [SO,Ss hlt,List.getElem_idxOf];rfl
  .show zm (.str (S t)) (.str (S t))=true;rw [Q8];simp
  .obtain ⟨x,hx,rfl⟩:=ee hz;show zm (.str (S x)) (.str (S t))=false;rw [Q8,decide_eq_false];intro q;subst q;obtain ⟨h2,h3⟩:=(Sl).mp hx;have h4:=List.not_of_lt_findIdx (xs:=WEEKDAYS) (p:=(·==x)) (i:=m) hm;rw [h3] at h4;simp at h4
theorem Kd:Sj "/" =S [47]:=by rw [dm];rfl
theorem OZ:Sj "-" =S [45]:=by rw [dm];rfl
theorem nG:al ["word","sign","count","parts"] ["word","sign","count"] (ah (top 78)):=by ext
noncomputable def vK (c:Cl):Sp:=Fu λ(t:SV) (sg n:Nat) vs H Q E=>vs=[.str (S t),.str (S [sg]),.int n]/\ju t/\((cut sg t).length=n->∀H' p,aj H H'->H' p=some (.lst ((cut sg t).map sS))->Q (.ref p) H')/\((cut sg t).length≠n->∀H',aj H H'->E (.ref c.bp) none H')
theorem jv (T:Tx):FO (cf P w) 1 "split_into" ["word","sign","count"] (vK c):=by
 refine T.xo.gX nG (by ext) λ_ _ _ _ _ H vs Q E hr h=>?_;obtain ⟨t,sg,n,rfl,ha,k1,k2⟩:=h;exists (aa (bt 3 nG.nd (tN (pv 0) (pv 1)))
  (aa (aL (aA z3 (aJ cu (by rfl) T.eQ S0 (aV (pv 3))) (pv 2) (aE _)) (ac (bw newX rfl rfl T.bu T.bn)) aC)
  (ac (am (pv 3)))))
 rfl';refine ye (by rw [eV];rfl) ha.sl λp hp=>?_;have e:=yJ sg t;rw [show (⟨[sg].toArray⟩:Str)=S [sg] from rfl] at e;rw [e,Da];have h1:upd H p (.lst ((cut sg t).map sS)) p=some (.lst ((cut sg t).map sS)):=ae;rfl';rw [w4];by_cases z:(cut sg t).length=n
 .rw [if_pos (by rw [z])];rfl';exact k1 z _ p (aj.upd hp) h1
 .rw [if_neg (λq=>z (by omega))];rfl';exact k2 z _ (aj.upd hp)
theorem O0 {α:Type} {l:List α} (h:l.length=2):∃a b,l=[a,b]:=by
 match l,h with
 |[a,b],_=>exact #[a,b,rfl]
theorem Q9 {α:Type} {l:List α} (h:l.length=3):∃a b c,l=[a,b,c]:=by
 match l,h with
 |[a,b,c],_=>exact #[a,b,c,rfl]
theorem iD {lo hi:Nat} {n:Nat} (h:num lo hi t=some n):lo<=n/\n<=hi:=(n9 h).2
theorem dB:al ["word","parts","month"] ["word"] (ah (top 75)):=by ext
noncomputable def Db (c:Cl):Sp:=yj λ(t:SV) vs H Q E=>vs=[.str (S t)]/\ju t/\(∀x,monthDay t=some x->∀H' q,aj H H'->H' q=some (.tup [.int (x.1:Nat),.int (x.2:Nat)])->Q (.ref q) H')/\(monthDay t=none->∀H',aj H H'->E (.ref c.bp) none H')
theorem rj (t:SV):monthDay t=match cut 47 t with
 |[a,b]=>match number 1 12 a with
  |none=>none
  |some m=>(number 1 (monthDays 2000 m) b).map λd=>(m,d)
 |_=>none:=rfl
theorem fR (T:Tx):FO (cf P w) 4 "read_month_and_date" ["word"] (Db c):=by
 refine T.lf.gX dB (by ext) λ_ _ _ _ _ H vs Q E hr h=>?_;obtain ⟨t,rfl,ha,k1,k2⟩:=h;exists (aa (bt 1 dB.nd (bK (jv T) hr.m (dH (pv 0) bv ag)))
  (aa (bt 2 dB.nd (bK (bx T) hr.m (dH (cR (pv 1) ag) ag ag)))
  (ac (am (gQ (cz (pv 2) (bK (bx T) hr.m (dH (cR (pv 1) ag) ag (fW (a_ T) hr.m (cz (gI 2000 T.u1 rfl) (pv 2)))))))))))
 rw [rj] at k1 k2;rfl';refine #[t,47,2,by rw [Kd];rfl,ha,λz H1 p s1 hp=>?_,λz H1 s1=>k2 ?_ H1 s1]
 .obtain ⟨a,b,e⟩:=O0 z;have a1:ju a:=ha.cut (c:=47) (by rw [e];simp);have b1:ju b:=ha.cut (c:=47) (by rw [e];simp);rw [e] at hp k1 k2;have hp:H1 p=some (.lst [sS a,sS b]):=hp;dsimp only at k1 k2;rfl';refine #[a,1,12,rfl,a1,λm hm=>?_,λhm=>?_]
  .obtain ⟨m1,m2⟩:=iD hm;rw [bU (by decide) (by decide) hm] at k1 k2;dsimp only at k1 k2;rfl';refine #[2000,m,rfl,m1,m2,?_];rfl';refine #[b,1,monthDays 2000 m,rfl,b1,λd hd=>?_,λhd=>?_]
   .rw [bU (by decide) (eK _ _) hd] at k1;rfl';refine #[by show 2<=sizeLine;decide,λq hq=>?_];exact k1 (m,d) rfl _ q (s1.trans (aj.upd hq)) ae
   .rw [bU (by decide) (eK _ _) hd] at k2;exact k2 rfl _ s1
  .rw [bU (by decide) (by decide) hm] at k2;exact k2 rfl _ s1
 .split
  .rename_i e;exact absurd (by rw [e];rfl) z
  .rfl
theorem i5:al ["word","parts","year","month"] ["word"] (ah (top 74)):=by ext
noncomputable def A6 (c:Cl):Sp:=yj λ(t:SV) vs H Q E=>vs=[.str (S t)]/\ju t/\(∀x,fullDate t=some x->∀H',aj H H'->Q (.int (dayOf x:Nat)) H')/\(fullDate t=none->∀H',aj H H'->E (.ref c.bp) none H')
theorem A7 (t:SV):fullDate t=match cut 47 t with
 |[a,b,c]=>match number 2000 2399 a,number 1 12 b with
  |some y,some m=>(number 1 (monthDays y m) c).map λd=>#[y,m,d]
  |_,_=>none
 |_=>none:=rfl
theorem rk (T:Tx):FO (cf P w) 4 "read_day" ["word"] (A6 c):=by
 refine T.B1.gX i5 (by ext) λ_ _ _ _ _ H vs Q E hr h=>?_;obtain ⟨t,rfl,ha,k1,k2⟩:=h;exists (aa (bt 1 i5.nd (bK (jv T) hr.m (dH (pv 0) bv ag)))
  (aa (bt 2 i5.nd (bK (pq T) hr.m (aV (cR (pv 1) ag))))
  (aa (bt 3 i5.nd (bK (bx T) hr.m (dH (cR (pv 1) ag) ag ag)))
  (ac (am (fW (fB T) hr.m (dH (pv 2) (pv 3) (bK (bx T) hr.m (dH (cR (pv 1) ag) ag (fW (a_ T) hr.m (cz (pv 2) (pv 3))))))))))))
 rw [A7] at k1 k2;rfl';refine #[t,47,3,by rw [Kd];rfl,ha,λz H1 p s1 hp=>?_,λz H1 s1=>k2 ?_ H1 s1]
 .obtain ⟨a,b,d,e⟩:=Q9 z;have a1:ju a:=ha.cut (c:=47) (by rw [e];simp);have b1:ju b:=ha.cut (c:=47) (by rw [e];simp);have d1:ju d:=ha.cut (c:=47) (by rw [e];simp);rw [e] at hp k1 k2;have hp:H1 p=some (.lst [sS a,sS b,sS d]):=hp;dsimp only at k1 k2;rfl';refine #[a,rfl,a1,λy hy=>?_,λhy=>?_]
  .obtain ⟨y1,y2⟩:=iD hy;rw [bU (by decide) (by decide) hy] at k1 k2;rfl';refine #[b,1,12,rfl,b1,λm hm=>?_,λhm=>?_]
   .obtain ⟨m1,m2⟩:=iD hm;rw [bU (by decide) (by decide) hm] at k1 k2;dsimp only at k1 k2;rfl';refine #[y,m,rfl,m1,m2,?_];rfl';refine #[d,1,monthDays y m,rfl,d1,λx hx=>?_,λhx=>?_]
    .rw [bU (by decide) (eK _ _) hx] at k1;rfl';exact #[y,m,x,rfl,y1,m1,m2,(iD hx).1,k1 #[y,m,x] rfl _ s1]
    .rw [bU (by decide) (eK _ _) hx] at k2;exact k2 rfl _ s1
   .rw [bU (by decide) (by decide) hm] at k2;exact k2 rfl _ s1
  .rw [bU (by decide) (by decide) hy] at k2;exact k2 rfl _ s1
 .split
  .rename_i e;exact absurd (by rw [e];rfl) z
  .rfl
theorem jw:al ["word","parts","first"] ["word"] (ah (top 73)):=by ext
noncomputable def vL (c:Cl):Sp:=yj λ(t:SV) vs H Q E=>vs=[.str (S t)]/\ju t/\(∀x,span t=some x->∀H' q,aj H H'->H' q=some (.tup [.int (x.1:Nat),.int (x.2:Nat)])->Q (.ref q) H')/\(span t=none->∀H',aj H H'->E (.ref c.bp) none H')
theorem Jr (t:SV):span t=match cut 45 t with
 |[a,b]=>match number 2000 2399 a with
  |none=>none
  |some y=>(number y 2399 b).map λz=>(y,z)
 |_=>none:=rfl
theorem nH (T:Tx):FO (cf P w) 4 "read_years" ["word"] (vL c):=by
 refine T.xn.gX jw (by ext) λ_ _ _ _ _ H vs Q E hr h=>?_;obtain ⟨t,rfl,ha,k1,k2⟩:=h;exists (aa (bt 1 jw.nd (bK (jv T) hr.m (dH (pv 0) bv ag)))
  (aa (bt 2 jw.nd (bK (pq T) hr.m (aV (cR (pv 1) ag))))
  (ac (am (gQ (cz (pv 2) (bK (bx T) hr.m (dH (cR (pv 1) ag) (pv 2) (gI 2399 T.gc rfl)))))))))
 rw [Jr] at k1 k2;rfl';refine #[t,45,2,by rw [OZ];rfl,ha,λz H1 p s1 hp=>?_,λz H1 s1=>k2 ?_ H1 s1]
 .obtain ⟨a,b,e⟩:=O0 z;have a1:ju a:=ha.cut (c:=45) (by rw [e];simp);have b1:ju b:=ha.cut (c:=45) (by rw [e];simp);rw [e] at hp k1 k2;have hp:H1 p=some (.lst [sS a,sS b]):=hp;dsimp only at k1 k2;rfl';refine #[a,rfl,a1,λm hm=>?_,λhm=>?_]
  .obtain ⟨m1,m2⟩:=iD hm;rw [bU (by decide) (by decide) hm] at k1 k2;dsimp only at k1 k2;rfl';refine #[b,m,2399,rfl,b1,λd hd=>?_,λhd=>?_]
   .rw [bU (SA (by decide) m1) (by decide) hd] at k1;rfl';refine #[by show 2<=sizeLine;decide,λq hq=>?_];exact k1 (m,d) rfl _ q (s1.trans (aj.upd hq)) ae
   .rw [bU (SA (by decide) m1) (by decide) hd] at k2;exact k2 rfl _ s1
  .rw [bU (by decide) (by decide) hm] at k2;exact k2 rfl _ s1
 .split
  .rename_i e;exact absurd (by rw [e];rfl) z
  .rfl
end
theorem Ho (t:SV) (s:String):Uk (S t) (Sj s)=begins (ascii s) t:=by rw [dm,pp]
theorem eq_str {s:String}:S t=Sj s↔t=ascii s:=by rw [dm];exact #[A3,λh=>by rw [h]]
theorem ju.drop (h:ju t) (n:Nat):ju (t.drop n):=h.sub (by rw [SQ];omega) λc hc=>List.mem_of_mem_drop hc
theorem wX (t:SV) (k:Nat):vv (S t) (some (k:Int)) none=S (t.drop k):=by
 unfold vv;rw [kJ,eV];have e:HT.gr t.length 0 (some (k:Int))=min k t.length:=by unfold HT.gr;simp;omega
 have e2:HT.gr t.length t.length none=t.length:=rfl;rw [e,e2];show (⟨_⟩:Str)=⟨_⟩;congr 1;congr 1;rw [List.take_of_length_le (by rw [SQ];omega)];by_cases h:k<=t.length
 .rw [Nat.min_eq_left h]
 .rw [Nat.min_eq_right (by omega),List.drop_length,List.drop_of_length_le (by omega)]
theorem vM {x:Nat×Nat} (h:monthDay t=some x):∃d r,t=d::r/\SJ d=true:=by
 rw [rj] at h;split at h
 .rename_i a b e;have j:=fo 47 t;rw [e] at j;split at h
  .cases h
  .rename_i m e1;have e1:=e1;rw [jO (by decide) (by decide)] at e1;unfold num at e1;split at e1
   .rename_i z;cases a with
    |nil=>exact absurd rfl z.1.1
    |cons d a=>refine #[d,a++47::b,j.symm,?_];have:=z.1.2;rw [List.all_cons,S9] at this;exact this.1
   .cases e1
 .cases h
theorem oo (r:SV):monthDay (101::r)=none:=by
 cases e:monthDay (101::r) with
 |none=>rfl
 |some x=>obtain ⟨d,r',e1,e2⟩:=vM e;have:d=101:=(List.cons.inj e1).1.symm;subst this;exact absurd e2 (by decide)
theorem mI:EASTER=[101,97,115,116,101,114]:=by decide
theorem ui (r:SV):moonOf (EASTER++r)=match r with
 |[]=>some 0
 |43::r=>(number 1 80 r).map λn=>(n:Int)
 |45::r=>(number 1 80 r).map λn=>-(n:Int)
 |_=>none:=by
 unfold moonOf;have e1:(EASTER++r).take 6=EASTER:=by rw [List.take_append_of_le_length (by decide)];decide
 have e2:(EASTER++r).drop 6=r:=by rw [List.drop_append_of_le_length (by decide)];rfl
 rw [e1,e2,if_neg (by simp)];rfl
theorem E8 (h:∀r,t≠EASTER++r):moonOf t=none:=by unfold moonOf;rw [if_pos];simp;intro z;refine h (t.drop 6) ?_;rw [<-z,Uc]
theorem Js (t:SV):whenOf [t]=match monthDay t with
 |some x=>some (.fixed x.1 x.2)
 |none=>(moonOf t).map .moon:=rfl
theorem rl {x:Nat} (h:begins (p++[x]) t=true):∃r,t=p++x::r:=by have:=gg h;refine #[t.drop (p++[x]).length,this.symm.trans ?_];rw [Tq];rfl
theorem E9 (p r:SV):begins p (p++r)=true:=by unfold begins;simp
theorem wY (p r:SV) (x:Nat):begins (p++[x]) (p++x::r)=true:=by have:=E9 (p++[x]) r;rw [Tq] at this;exact this
section
noncomputable def Reads (c:Cl) {α:Type} (o:Option α) (R:Hp->KE->α->Prop) (H:Hp) (Q:VK) (E:XK):Prop:=(∀x,o=some x->∀H' q,aj H H'->R H' q x->Q (.ref q) H')/\(o=none->∀H',aj H H'->E (.ref c.bp) none H')
theorem iE:al ["word","pair"] ["word"] (ah (top 71)):=by ext
noncomputable def oq (c:Cl):Sp:=yj λ(t:SV) vs H Q E=>vs=[.str (S t)]/\ju t/\Reads c (whenOf [t]) (gH c) H Q E
theorem iF (T:Tx):FO (cf P w) 5 "read_short_rule" ["word"] (oq c):=by
 refine T.oB.gX iE (by ext) λ_ _ _ _ _ H vs Q E hr h=>?_;obtain ⟨t,rfl,ha,k1,k2⟩:=h;exists (aa (aL (aA dF (pv 0) bv (aE _)) (ac (am (gF (jq T) hr.m rfl bq (aV ag)))) aC)
  (aa (aL (c9 (Af Up Uo jh (pv 0) bv)) (ac (am (gF (jq T) hr.m rfl bq (aV (bK (bx T) hr.m (dH (cX tG (pv 0) (cr ag) ib) ag (gI 80 T.fI rfl))))))) aC)
  (aa (aL (c9 (Af Up Uo jh (pv 0) bv)) (ac (am (gF (jq T) hr.m rfl bq (aV (k6 gP (bK (bx T) hr.m (dH (cX tG (pv 0) (cr ag) ib) ag (gI 80 T.fI rfl)))))))) aC)
  (aa (bt 1 iE.nd (bK (fR T) hr.m (aV (pv 0))))
  (ac (am (gF (rf T) hr.m rfl bq (cz (k9 (pv 1) ag) (k9 (pv 1) ag)))))))))
 rw [Js] at k1 k2;rfl';by_cases c1:S t=Sj "easter"
 .rw [if_pos c1];have e:t=EASTER:=eq_str.mp c1;rw [e,mI,oo,<-mI] at k1;have em:moonOf EASTER=some 0:=by decide
  rw [em] at k1;rfl';intro x dx hx hdx hne;refine #[x,dx,_,rfl,ae,rfl,?_];rw [jr];exact k1 (.moon 0) rfl _ x (aj.mk hx hdx) #[dx,js]
 .rw [if_neg c1];rfl';have n0:t≠EASTER:=λz=>c1 (eq_str.mpr z);rw [Ho];cases c2:begins (ascii "easter+") t with
  |true=>
   obtain ⟨r,e⟩:=rl (p:=EASTER) (x:=43) c2;have ed:t.drop 7=r:=by rw [e];rfl
   have e1:monthDay t=none:=by rw [e,mI];exact oo _
   have e2:moonOf t=(number 1 80 r).map λn=>(n:Int):=by rw [e,ui];rfl
   rw [e1,e2] at k1 k2;dsimp only at k1 k2;rfl';refine Aq ha.sz ?_;rw [show vv (S t) (some 7) none=S (t.drop 7) from wX t 7,ed];rfl';refine #[r,1,80,rfl,ed▸ha.drop 7,λn hn=>?_,λhn=>?_]
   .rw [bU (by decide) (by decide) hn] at k1;rfl';intro x dx hx hdx hne;refine #[x,dx,_,rfl,ae,rfl,?_];rw [jr];exact k1 (.moon n) rfl _ x (aj.mk hx hdx) #[dx,js]
   .rw [bU (by decide) (by decide) hn] at k2;exact k2 rfl _ (aj.refl _)
  |false=>
   rfl';rw [Ho];cases c3:begins (ascii "easter-") t with
   |true=>
    obtain ⟨r,e⟩:=rl (p:=EASTER) (x:=45) c3;have ed:t.drop 7=r:=by rw [e];rfl
    have e1:monthDay t=none:=by rw [e,mI];exact oo _
    have e2:moonOf t=(number 1 80 r).map λn=>-(n:Int):=by rw [e,ui];rfl
    rw [e1,e2] at k1 k2;dsimp only at k1 k2;rfl';refine Aq ha.sz ?_;rw [show vv (S t) (some 7) none=S (t.drop 7) from wX t 7,ed];rfl';refine #[r,1,80,rfl,ed▸ha.drop 7,λn hn=>?_,λhn=>?_]
    .rw [bU (by decide) (by decide) hn] at k1;rfl';intro x dx hx hdx hne;refine #[x,dx,_,rfl,ae,rfl,?_];rw [jr];exact k1 (.moon (-n)) rfl _ x (aj.mk hx hdx) #[dx,js]
    .rw [bU (by decide) (by decide) hn] at k2;exact k2 rfl _ (aj.refl _)
   |false=>
    have em:moonOf t=none:=by
     by_cases z:∃r,t=EASTER++r
     .obtain ⟨r,e⟩:=z;rw [e,ui];split
      .exact absurd (by rw [e,Td]) n0
      .rw [e] at c2;rw [show ascii "easter+" =EASTER++[43] from rfl,wY] at c2;cases c2
      .rw [e] at c3;rw [show ascii "easter-" =EASTER++[45] from rfl,wY] at c3;cases c3
      .rfl
     .exact E8 λr e=>z #[r,e]
    rw [em] at k1 k2;rfl';refine #[t,rfl,ha,λm hm H1 q s1 hq=>?_,λhm H1 s1=>?_]
    .rw [hm] at k1;rfl';intro x dx hx hdx hne;refine #[x,dx,m.1,m.2,rfl,ae,?_];refine #[rfl,?_];rw [jr];exact k1 (.fixed m.1 m.2) rfl _ x (s1.trans (aj.mk hx hdx)) #[dx,js]
    .rw [hm] at k2;exact k2 rfl _ s1
theorem dR:al ["words","pair","weekday","month"] ["words"] (ah (top 72)):=by ext
noncomputable def pr (c:Cl):Sp:=Av λ(p:KE) (a b d:SV) (l:List SV) vs H Q E=>vs=[.ref p]/\H p=some (.lst (sS a::sS b::sS d::l.map sS))/\(ju a/\ju b/\ju d)/\Reads c (whenOf [a,b,d]) (gH c) H Q E
theorem Jt (a b d:SV):whenOf [a,b,d]=if b=ascii "from" then (match weekdayOf a,monthDay d with
 |some w,some x=>some (.from_ w x.1 x.2)
 |_,_=>none)
 else match (if a=ascii "last" then some 0 else number 1 5 a),weekdayOf b,number 1 12 d with
  |some k,some w,some m=>some (.nth k w m)
  |_,_,_=>none:=rfl
theorem Q_ {v m:Nat} (h:∃dx,H q=some (.ins c.ck dx [("weekday",.int v),("month",.int m)])):gH c H q (.nth 0 v m):=h
theorem Ra {k v m:Nat} (hk:1<=k) (h:∃dx,H q=some (.ins c.cW dx [("place",.int k),("weekday",.int v),("month",.int m)])):gH c H q (.nth k v m):=by
 show if k=0 then _ else _
 rw [if_neg (by omega)];exact h
theorem i6 (T:Tx):FO (cf P w) 5 "read_long_rule" ["words"] (pr c):=by
 refine T.pX.gX dR (by ext) λ_ _ _ _ _ H vs Q E hr h=>?_;obtain ⟨p,a,b,d,l,rfl,hp,⟨a1,b1,d1⟩,k1,k2⟩:=h;exists (aa (aL (aA dF (cR (pv 0) ag) bv (aE _)) (aa (bt 1 dR.nd (bK (fR T) hr.m (aV (cR (pv 0) ag))))
  (ac (am (gF (AY T) hr.m rfl bq (dH (bK (gY T) hr.m (aV (cR (pv 0) ag))) (k9 (pv 1) ag) (k9 (pv 1) ag)))))) aC)
  (aa (bt 2 dR.nd (bK (gY T) hr.m (aV (cR (pv 0) ag))))
  (aa (bt 3 dR.nd (bK (bx T) hr.m (dH (cR (pv 0) ag) ag ag)))
  (aa (aL (aA dF (cR (pv 0) ag) bv (aE _)) (ac (am (gF (AW T) hr.m rfl bq (cz (pv 2) (pv 3))))) aC)
  (ac (am (gF (C9 T) hr.m rfl bq (dH (bK (bx T) hr.m (dH (cR (pv 0) ag) ag ag)) (pv 2) (pv 3)))))))))
 rw [Jt] at k1 k2;rfl';by_cases c1:S b=Sj "from"
 .rw [if_pos (eq_str.mp c1)] at k1 k2;rw [if_pos c1];rfl';refine #[d,rfl,d1,λx hx H1 q s1 hq=>?_,λhx H1 s1=>?_]
  .have hp1:=s1 _ _ hp;rw [hx] at k1 k2;rfl';refine #[a,rfl,λv hv=>?_,λhv=>?_]
   .rw [hv] at k1;rfl';intro y dx hy hdx hne;refine #[y,dx,v,x.1,x.2,rfl,ae,λH2 e kp at_ hb=>#[rfl,?_]];refine k1 (.from_ v x.1 x.2) rfl H2 y (s1.trans (aj.made hy hdx kp)) ?_;obtain ⟨bd,hb⟩:=hb;exact #[dx,e,bd,at_,hb]
   .rw [hv] at k2;exact k2 rfl _ s1
  .rw [hx] at k2;refine k2 ?_ _ s1;cases weekdayOf a<;>rfl
 .rw [if_neg (λz=>c1 (eq_str.mpr z))] at k1 k2;rw [if_neg c1];rfl';refine #[b,rfl,λv hv=>?_,λhv=>?_]
  .rw [hv] at k1 k2;rfl';refine #[d,1,12,rfl,d1,λm hm=>?_,λhm=>?_]
   .rw [bU (by decide) (by decide) hm] at k1 k2;rfl';by_cases c2:S a=Sj "last"
    .rw [if_pos c2];rw [if_pos (eq_str.mp c2)] at k1;rfl';intro x dx hx hdx hne;refine #[x,dx,_,_,rfl,ae,rfl,?_];rw [jr];exact k1 (.nth 0 v m) rfl _ x (aj.mk hx hdx) (Q_ #[dx,js])
    .rw [if_neg c2];rw [if_neg (λz=>c2 (eq_str.mpr z))] at k1 k2;rfl';refine #[a,1,5,rfl,a1,λn hn=>?_,λhn=>?_]
     .rw [bU (by decide) (by decide) hn] at k1;rfl';intro x dx hx hdx hne;refine #[x,dx,_,_,_,rfl,ae,rfl,?_];rw [jr];exact k1 (.nth n v m) rfl _ x (aj.mk hx hdx) (Ra (iD hn).1 #[dx,js])
     .rw [bU (by decide) (by decide) hn] at k2;exact k2 rfl _ (aj.refl _)
   .rw [bU (by decide) (by decide) hm] at k2;refine k2 ?_ _ (aj.refl _);generalize (if a=ascii "last" then some 0 else number 1 5 a)=z;cases z<;>rfl
  .rw [hv] at k2;refine k2 ?_ _ (aj.refl _);generalize (if a=ascii "last" then some 0 else number 1 5 a)=z;cases z<;>rfl
end
section
noncomputable def Dc (b:Bool) (l:List SV):Option Feast:=match l with
 |[x]=>(whenOf [x]).map λy=>#[b,y,none]
 |[x,y]=>match whenOf [x],span y with
  |some u,some r=>some #[b,u,some r]
  |_,_=>none
 |[x,y,z]=>(whenOf [x,y,z]).map λu=>#[b,u,none]
 |[x,y,z,v]=>match whenOf [x,y,z],span v with
  |some u,some r=>some #[b,u,some r]
  |_,_=>none
 |_=>none
theorem uj (b:Bool) (l:List SV):feastOf b l=(Dc b l).map .feast:=by
 unfold feastOf Dc
 match l with
 |[]=>rfl
 |[x]=>
  show (match whenOf [x] with|some x=>some (T3 #[b,x,none])|none=>(match span x,whenOf [] with|some r,some x=>some (T3 #[b,x,some r])|_,_=>none))=Option.map T3 (Option.map (λy=>(#[b,y,none]:Feast)) (whenOf [x]));cases whenOf [x] with
  |some u=>rfl
  |none=>cases span x<;>rfl
 |[x,y]=>show (match span y,whenOf [x] with|some r,some x=>some (T3 #[b,x,some r])|_,_=>none)=Option.map T3 (match whenOf [x],span y with|some u,some r=>some (#[b,u,some r]:Feast)|_,_=>none);cases span y<;>cases whenOf [x]<;>rfl
 |[x,y,z]=>
  show (match whenOf [x,y,z] with|some x=>some (T3 #[b,x,none])|none=>(match span z,whenOf [x,y] with|some r,some x=>some (T3 #[b,x,some r])|_,_=>none))=Option.map T3 (Option.map (λy=>(#[b,y,none]:Feast)) (whenOf [x,y,z]));cases whenOf [x,y,z] with
  |some u=>rfl
  |none=>cases span z<;>rfl
 |[x,y,z,v]=>show (match span v,whenOf [x,y,z] with|some r,some x=>some (T3 #[b,x,some r])|_,_=>none)=Option.map T3 (match whenOf [x,y,z],span v with|some u,some r=>some (#[b,u,some r]:Feast)|_,_=>none);cases span v<;>cases whenOf [x,y,z]<;>rfl
 |x::y::z::v::u::r=>
  have e1:whenOf (x::y::z::v::u::r)=none:=rfl;rw [e1];dsimp only;rw [show (x::y::z::v::u::r).dropLast=x::y::z::v::(u::r).dropLast from rfl];have e2:whenOf (x::y::z::v::(u::r).dropLast)=none:=by unfold whenOf;rfl
  rw [e2];cases (x::y::z::v::u::r).getLast? with
  |none=>rfl
  |some t=>dsimp only;cases span t<;>rfl
theorem vN:al ["words","moved"] ["words","moved"] (ah (top 70)):=by ext
noncomputable def vO (c:Cl):Sp:=Fu λ(p:KE) (l:List SV) (b:Bool) vs H Q E=>vs=[.ref p,.bl b]/\H p=some (.lst (l.map sS))/\(∀t∈l,ju t)/\Reads c (Dc b l) (dN c) H Q E
theorem gH.to (s:aj H H') (h:gH c H q x):gH c H' q x:=h.same λb C dx fs e=>s b _ e
theorem nJ (T:Tx):FO (cf P w) 6 "read_feast" ["words","moved"] (vO c):=by
 refine T.xm.gX vN (by ext) λ_ _ _ _ _ H vs Q E hr h=>?_;obtain ⟨p,l,b,rfl,hp,ha,k1,k2⟩:=h;exists (aa (aL (aA dF (aJ cu (by rfl) T.eQ S0 (aV (pv 0))) ag (aE _)) (ac (am (gF (pf T) hr.m rfl bq (dH (bK (iF T) hr.m (aV (cR (pv 0) ag))) (pv 1) dv)))) aC)
  (aa (aL (aA dF (aJ cu (by rfl) T.eQ S0 (aV (pv 0))) ag (aE _)) (ac (am (gF (pf T) hr.m rfl bq (dH (bK (iF T) hr.m (aV (cR (pv 0) ag))) (pv 1) (bK (nH T) hr.m (aV (cR (pv 0) ag))))))) aC)
  (aa (aL (aA dF (aJ cu (by rfl) T.eQ S0 (aV (pv 0))) ag (aE _)) (ac (am (gF (pf T) hr.m rfl bq (dH (bK (i6 T) hr.m (aV (pv 0))) (pv 1) dv)))) aC)
  (aa (aL (aA dF (aJ cu (by rfl) T.eQ S0 (aV (pv 0))) ag (aE _)) (ac (am (gF (pf T) hr.m rfl bq (dH (bK (i6 T) hr.m (aV (pv 0))) (pv 1) (bK (nH T) hr.m (aV (cR (pv 0) ag))))))) aC)
  (ac (bw newX rfl rfl T.bu T.bn))))))
 match l,hp,ha,k1,k2 with
 |[],hp,ha,k1,k2=>rfl';refine k8 (show¬((0:Nat):Int)=1 by decide) ?_;rfl';refine k8 (show¬((0:Nat):Int)=2 by decide) ?_;rfl';refine k8 (show¬((0:Nat):Int)=3 by decide) ?_;rfl';refine k8 (show¬((0:Nat):Int)=4 by decide) ?_;rfl';exact k2 rfl _ (aj.refl _)
 |[x],hp,ha,k1,k2=>
  have hp:H p=some (.lst [sS x]):=hp;rfl';refine wM rfl ?_;rfl';refine #[x,rfl,ha x (by simp),λu hu H1 q s1 hq=>?_,λhu H1 s1=>?_]
  .rfl';intro y dx hy hdx hne;refine #[y,dx,_,_,_,rfl,ae,rfl,?_];rw [jr];exact k1 #[b,u,none] (by show (whenOf [x]).map _=_;rw [hu];rfl) _ y (s1.trans (aj.mk hy hdx)) #[dx,q,.bZ,js,hq.to (aj.mk hy hdx),rfl]
  .exact k2 (by show (whenOf [x]).map _=_;rw [hu];rfl) _ s1
 |[x,y],hp,ha,k1,k2=>
  have hp:H p=some (.lst [sS x,sS y]):=hp;rfl';refine k8 (show¬((2:Nat):Int)=1 by decide) ?_;rfl';refine wM rfl ?_;rfl';refine #[x,rfl,ha x (by simp),λu hu H1 q s1 hq=>?_,λhu H1 s1=>?_]
  .have hp1:=s1 _ _ hp;rfl';refine #[y,rfl,ha y (by simp),λr hr H2 z s2 hz=>?_,λhr H2 s2=>?_]
   .rfl';intro v dx hv hdx hne;refine #[v,dx,_,_,_,rfl,ae,rfl,?_];rw [jr];refine k1 #[b,u,some r] (by show (match whenOf [x],span y with|some u,some r=>_|_,_=>none)=_;rw [hu,hr]) _ v ((s1.trans s2).trans (aj.mk hv hdx)) #[dx,q,.ref z,js,hq.to (s2.trans (aj.mk hv hdx)),z,rfl,aj.mk hv hdx _ _ hz]
   .exact k2 (by show (match whenOf [x],span y with|some u,some r=>_|_,_=>none)=_;rw [hu,hr]) _ (s1.trans s2)
  .exact k2 (by show (match whenOf [x],span y with|some u,some r=>_|_,_=>none)=_;rw [hu]) _ s1
 |[x,y,z],hp,ha,k1,k2=>
  have hp:H p=some (.lst [sS x,sS y,sS z]):=hp;rfl';refine k8 (show¬((3:Nat):Int)=1 by decide) ?_;rfl';refine k8 (show¬((3:Nat):Int)=2 by decide) ?_;rfl';refine wM rfl ?_;rfl';refine #[p,x,y,z,[],rfl,hp,#[ha x (by simp),ha y (by simp),ha z (by simp)],λu hu H1 q s1 hq=>?_,λhu H1 s1=>?_]
  .rfl';intro v dx hv hdx hne;refine #[v,dx,_,_,_,rfl,ae,rfl,?_];rw [jr];exact k1 #[b,u,none] (by show (whenOf [x,y,z]).map _=_;rw [hu];rfl) _ v (s1.trans (aj.mk hv hdx)) #[dx,q,.bZ,js,hq.to (aj.mk hv hdx),rfl]
  .exact k2 (by show (whenOf [x,y,z]).map _=_;rw [hu];rfl) _ s1
 |[x,y,z,t],hp,ha,k1,k2=>
  have hp:H p=some (.lst [sS x,sS y,sS z,sS t]):=hp;rfl';refine k8 (show¬((4:Nat):Int)=1 by decide) ?_;rfl';refine k8 (show¬((4:Nat):Int)=2 by decide) ?_;rfl';refine k8 (show¬((4:Nat):Int)=3 by decide) ?_;rfl';refine wM rfl ?_;rfl';refine #[p,x,y,z,[t],rfl,hp,#[ha x (by simp),ha y (by simp),ha z (by simp)],λu hu H1 q s1 hq=>?_,λhu H1 s1=>?_]
  .have hp1:=s1 _ _ hp;rfl';refine #[t,rfl,ha t (by simp),λr hr H2 y2 s2 hy2=>?_,λhr H2 s2=>?_]
   .rfl';intro v dx hv hdx hne;refine #[v,dx,_,_,_,rfl,ae,rfl,?_];rw [jr];refine k1 #[b,u,some r] (by show (match whenOf [x,y,z],span t with|some u,some r=>_|_,_=>none)=_;rw [hu,hr]) _ v ((s1.trans s2).trans (aj.mk hv hdx)) #[dx,q,.ref y2,js,hq.to (s2.trans (aj.mk hv hdx)),y2,rfl,aj.mk hv hdx _ _ hy2]
   .exact k2 (by show (match whenOf [x,y,z],span t with|some u,some r=>_|_,_=>none)=_;rw [hu,hr]) _ (s1.trans s2)
  .exact k2 (by show (match whenOf [x,y,z],span t with|some u,some r=>_|_,_=>none)=_;rw [hu]) _ s1
 |x::y::z::t::v::l,hp,ha,k1,k2=>
  have e:∀n:Int,n<5->¬((((x::y::z::t::v::l).map sS).length:Nat):Int)=n:=λn hn=>by rw [w4];simp only [Si];omega
  rfl';rw [if_neg (e 1 (by decide))];rfl';rw [if_neg (e 2 (by decide))];rfl';rw [if_neg (e 3 (by decide))];rfl';rw [if_neg (e 4 (by decide))];rfl';exact k2 rfl _ (aj.refl _)
end
noncomputable def tD (t:SV):PyData:=.str (S t)
theorem uk {K:UT} {H:Hp}:∀l:List SV,tw K H (l.map sS) (l.map tD)
 |[]=>.nil
 |a::l=>.cons (.str _) (uk l)
theorem wZ:∀l m:List SV,PyData.eqvAll (l.map tD) (m.map tD)=decide (l=m)
 |[],[]=>by simp [PyData.eqvAll]
 |[],b::m=>by simp [PyData.eqvAll]
 |a::l,[]=>by simp [PyData.eqvAll]
 |a::l,b::m=>by
  show ((S a==S b)&&PyData.eqvAll (l.map tD) (m.map tD))=_;rw [wZ l m];by_cases h:a=b
  .subst h;simp
  .have:(S a==S b)=false:=beq_eq_false_iff_ne.mpr λz=>h (A3 z);rw [this];simp [h]
theorem pw {l:List SV} (h:∀t∈l,ju t):SeqAt.shaped (.list (l.map tD))=true:=by
 unfold SeqAt.shaped;rw [S9];constructor
 .show PyData.canLayAll0 (l.map tD)=true;induction l with
  |nil=>rfl
  |cons a l ih=>
   show (_&&PyData.canLayAll0 (l.map tD))=true;rw [ih λt ht=>h t (Sh _ ht),Bool.and_true];have ha:=h a Sk;show (S a).cps.all (λx=>decide (x<0x110000))=true;rw [Array.all_eq_true'];intro x hx;have:x∈a:=by simpa [S] using hx
   have:=ha.2 x this;simp;omega
 .have hd:∀l:List SV,PyData.depthAll (l.map tD)<=1:=λl=>by
   induction l with
   |nil=>exact SW _
   |cons a l ih=>
    show max (PyData.depth (tD a)) (PyData.depthAll (l.map tD))<=1;have:PyData.depth (tD a)<=1:=by unfold tD PyData.depth;omega
    omega
  have:=hd l;rw [decide_eq_true_eq];show PyData.depthAll (l.map tD)+1<=64;omega
theorem O1 {K:UT} {H:Hp} {Q:VK} {p q:KE} {l m:List SV} (hp:H p=some (.lst (l.map sS))) (hq:H q=some (.lst (m.map sS))) (hl:∀t∈l,ju t) (hm:∀t∈m,ju t) (k:Q (.bl (decide (l=m))) H):Nu K (.ref p) (.ref q) H Q:=by
 refine #[_,_,.lst (cB.of hp) (uk l),.lst (cB.of hq) (uk m),pw hl,pw hm,?_];have e:PyData.eqv (.list (l.map tD)) (.list (m.map tD))=PyData.eqvAll (l.map tD) (m.map tD):=by simp [PyData.eqv]
 rw [e,wZ];exact k
theorem mJ (xs:List V) (k:Nat):fD xs (some (k:Int)) none=xs.drop k:=by
 unfold fD;rw [HT.ss,HT.tu,List.take_of_length_le (by rw [SQ];omega)];by_cases h:k<=xs.length
 .rw [Nat.min_eq_left h]
 .rw [Nat.min_eq_right (by omega),List.drop_length,List.drop_of_length_le (by omega)]
theorem w6 (xs:List V) (k:Nat):fD xs none (some (k:Int))=xs.take k:=by
 unfold fD;rw [HT.ss,HT.tu,List.drop_zero,Nat.sub_zero];by_cases h:k<=xs.length
 .rw [Nat.min_eq_left h]
 .rw [Nat.min_eq_right (by omega),SX,List.take_of_length_le (by omega)]
theorem qB {kvs:List (Key×V)} {k:Key} (v:V) {u:V} (h:aY kvs k=some u):(putK kvs k v).map (·.1)=kvs.map (·.1):=by
 unfold putK;split
 .rw [T2];refine List.map_congr_left λx _=>?_;show (if x.1=k then (x.1,v) else x).1=x.1;split<;>rfl
 .rename_i c;exfalso;unfold aY at h;cases e:kvs.find? λkv=>decide (kv.1=k) with
  |none=>rw [e] at h;cases h
  |some x=>apply c;rw [UF];exact #[x,UJ e,(List.find?_eq_some_iff_append.mp e).1]
theorem A8 {kvs:List (Key×V)} {k:Key} (v:V):(putK kvs k v).length<=kvs.length+1:=by
 cases e:aY kvs k with
 |none=>rw [oP v e,Sq];exact Sf _
 |some u=>have:=congrArg T7 (qB v e);rw [w4,w4] at this;omega
theorem BN.O2 {B:Nat} {kvs:List (Key×V)} (h:BN B kvs) {n:Nat} (v:V) (hb:n<B):BN B (putK kvs (.inl (n:Int)) v):=by
 cases e:aY kvs (.inl (n:Int)) with
 |none=>exact h.put v e hb
 |some u=>refine #[by rw [qB v e];exact h.1,λp hp=>?_];have:p.1∈(putK kvs (.inl (n:Int)) v).map (·.1):=(Te).mpr #[p,hp,rfl];rw [qB v e] at this;obtain ⟨q,hq,e2⟩:=(Te).mp this;obtain ⟨m,e3,e4⟩:=h.2 q hq;exact #[m,by rw [<-e2,e3],e4]
noncomputable def mZ (H:Hp) (a:KE) (N:Nat) (p:Nat->Bool):Prop:=∃kvs:List (Key×V),H a=some (.dK kvs)/\kvs.length<=N/\∀n:Nat,(aY kvs (.inl (n:Int))).isSome=p n
structure fw (c:Cl) (H:Hp) (a:KE) (A:CA) (n:Nat) (k:Calendar):Prop where
 obj:H a=some (.ins c.Calendar A.dx (l6 n A))
 rest:∃kvs:List (Key×V),H A.r=some (.dK kvs)/\BN 7 kvs/\∀n:Nat,(aY kvs (.inl (n:Int))).isSome=dJ k n
 feasts:∃ps:List KE,H A.f=some (.lst (ps.map V.ref))/\cC (dN c H) ps (aF k)
 shut:mZ H A.s k.length (shutOn k)
 opened:mZ H A.o k.length (openOn k)
 cl:H A.cl=some (.dK [])
 no:H A.no=some (.dK [])
 nd:[A.r,A.s,A.o,A.cl,A.no].Nodup
noncomputable def Dd (A:CA) (H H':Hp):Prop:=∀b o,H b=some o->b≠A.r->b≠A.f->b≠A.s->b≠A.o->H' b=some o
theorem Dd.of (s:aj H H'):Dd A H H':=λb o e _ _ _ _=>s b o e
theorem Dd.trans (x:Dd A H H1) (y:Dd A H1 H2):Dd A H H2:=λb o e n1 n2 n3 n4=>y b o (x b o e n1 n2 n3 n4) n1 n2 n3 n4
theorem mZ.put {H:Hp} {a:KE} {N:Nat} {p:Nat->Bool} {kvs:List (Key×V)} (l:kvs.length<=N) (e:∀n:Nat,(aY kvs (.inl (n:Int))).isSome=p n) (m:Nat) (v:V):mZ (upd H a (.dK (putK kvs (.inl (m:Int)) v))) a (N+1) (λn=>p n||decide (m=n)):=by
 refine #[_,ae,SA (A8 v) (by omega),λn=>?_];rw [d7];by_cases z:n=m
 .subst z;rw [if_pos rfl];simp
 .rw [if_neg (λy=>z (by have:=Ui y;omega)),e n];show p n=(p n||decide (m=n));rw [decide_eq_false (λy:m=n=>z y.symm),Ut]
theorem mZ.mono {N M:Nat} {p:Nat->Bool} (h:mZ H a N p) (l:N<=M):mZ H a M p:=let ⟨kvs,e,z,q⟩:=h;⟨kvs,e,SA z l,q⟩
theorem mZ.of {N M:Nat} {p q:Nat->Bool} (h:mZ H a N p) (l:N<=M) (k:∀o,H a=some o->H' a=some o) (e:∀n,p n=q n):mZ H' a M q:=let ⟨kvs,e1,z,r⟩:=h;⟨kvs,k _ e1,SA z l,λn=>(r n).trans (e n)⟩
section
variable {H H':Hp} {a:KE} {A:CA} {n:Nat} {k:Calendar}
theorem dN.to (s:aj H H') (h:dN c H q f):dN c H' q f:=h.same (λb C dx fs e=>s b _ e) λb xs e=>s b _ e
theorem fw.to (R:fw c H a A n k) (s:aj H H'):fw c H' a A n k:=by obtain ⟨kr,r1,r2⟩:=R.rest;obtain ⟨ps,f1,f2⟩:=R.feasts;exact #[s _ _ R.obj,#[kr,s _ _ r1,r2],#[ps,s _ _ f1,f2.imp λp f h=>h.to s],R.shut.of (Sf _) (λo e=>s _ _ e) λ_=>rfl,R.opened.of (Sf _) (λo e=>s _ _ e) λ_=>rfl,s _ _ R.cl,s _ _ R.no,R.nd]
theorem A9 (k:Calendar) (s:Said) (w:Nat):dJ (k++[s]) w=(dJ k w||decide (s= .rest w)):=by unfold dJ;rw [List.contains_append];congr 1;rw [TV,TB,decide_eq_true_eq,SB];exact eq_comm
theorem A_ (k:Calendar) (s:Said) (m:Nat):shutOn (k++[s]) m=(shutOn k m||match s with| .shut x=>dayOf x==m|_=>false):=by unfold shutOn;rw [List.any_append,Uh,List.any_nil,Ut];rfl
theorem Ba (k:Calendar) (s:Said) (m:Nat):openOn (k++[s]) m=(openOn k m||match s with| .open_ x=>dayOf x==m|_=>false):=by unfold openOn;rw [List.any_append,Uh,List.any_nil,Ut];rfl
theorem ul (k:Calendar) (s:Said):aF (k++[s])=aF k++aF [s]:=by unfold aF;rw [List.filterMap_append]
theorem fw.step (R:fw c H a A n k) (s:Said) (hb:H b=some o) (hd:(∃kvs,o= .dK kvs)\/∃xs,o= .lst xs) (nc:b≠A.cl) (nn:b≠A.no)
 (r:∃kvs:List (Key×V),upd H b o' A.r=some (.dK kvs)/\BN 7 kvs/\∀n:Nat,(aY kvs (.inl (n:Int))).isSome=dJ (k++[s]) n)
 (f:∃ps:List KE,upd H b o' A.f=some (.lst (ps.map V.ref))/\cC (dN c H) ps (aF (k++[s])))
 (sh:mZ (upd H b o') A.s (k.length+1) (shutOn (k++[s]))) (op:mZ (upd H b o') A.o (k.length+1) (openOn (k++[s]))):fw c (upd H b o') a A n (k++[s]):=by
 have kp:∀{x u},H x=some u->x≠b->upd H b o' x=some u:=λ{x u} e n=>by rw [ai n];exact e
 have ki:∀x C dx fs,H x=some (.ins C dx fs)->upd H b o' x=some (.ins C dx fs):=λx C dx fs e=>kp e (aX e hb (by rcases hd with ⟨_,rfl⟩|⟨_,rfl⟩<;>exact λz=>nomatch z));have kt:∀x xs,H x=some (.tup xs)->upd H b o' x=some (.tup xs):=λx xs e=>kp e (aX e hb (by rcases hd with ⟨_,rfl⟩|⟨_,rfl⟩<;>exact λz=>nomatch z));obtain ⟨ps,f1,f2⟩:=f;refine #[ki _ _ _ _ R.obj,r,#[ps,f1,f2.imp λp f h=>h.same ki kt],?_,?_,kp R.cl λz=>nc z.symm,kp R.no λz=>nn z.symm,R.nd]
 .rw [Sq];exact sh
 .rw [Sq];exact op
theorem fw.kept (R:fw c H a A n k) (s:Said):(b≠A.r->(∀w,s≠.rest w)->∃kvs:List (Key×V),upd H b o' A.r=some (.dK kvs)/\BN 7 kvs/\∀n:Nat,(aY kvs (.inl (n:Int))).isSome=dJ (k++[s]) n)/\
 (b≠A.f->aF [s]=[]->∃ps:List KE,upd H b o' A.f=some (.lst (ps.map V.ref))/\cC (dN c H) ps (aF (k++[s])))/\
 (b≠A.s->(∀x,s≠.shut x)->mZ (upd H b o') A.s (k.length+1) (shutOn (k++[s])))/\(b≠A.o->(∀x,s≠.open_ x)->mZ (upd H b o') A.o (k.length+1) (openOn (k++[s]))):=by
 refine #[λhb hs=>?_,λhb hs=>?_,λhb hs=>?_,λhb hs=>?_]
 .obtain ⟨kvs,e1,e2,e3⟩:=R.rest;refine #[kvs,by rw [ai λz=>hb z.symm];exact e1,e2,λm=>?_];rw [e3 m,A9,decide_eq_false (hs m),Ut]
 .obtain ⟨ps,e1,e2⟩:=R.feasts;refine #[ps,by rw [ai λz=>hb z.symm];exact e1,?_];rw [ul,hs,Td];exact e2
 .refine R.shut.of (Nat.le_succ _) (λo e=>by rw [ai λz=>hb z.symm];exact e) λm=>?_;rw [A_];cases s<;>first|exact (Ut _).symm|exact absurd rfl (hs _)
 .refine R.opened.of (Nat.le_succ _) (λo e=>by rw [ai λz=>hb z.symm];exact e) λm=>?_;rw [Ba];cases s<;>first|exact (Ut _).symm|exact absurd rfl (hs _)
theorem Dd.upd (h:b=A.r\/b=A.f\/b=A.s\/b=A.o):Dd A H (upd H b o):=λx u e n1 n2 n3 n4=>by
 rw [ai]
 .exact e
 .rintro rfl;rcases h with h|h|h|h
  .exact n1 h
  .exact n2 h
  .exact n3 h
  .exact n4 h
theorem fw.O3 (R:fw c H a A n k):A.r≠A.s/\A.r≠A.o/\A.r≠A.cl/\A.r≠A.no/\A.s≠A.o/\A.s≠A.cl/\A.s≠A.no/\A.o≠A.cl/\A.o≠A.no/\A.cl≠A.no:=by have:=R.nd;simp only [TH,Sg,SI,or_false,not_or,List.nodup_nil,and_true,not_false_eq_true] at this;obtain ⟨⟨p1,p2,p3,p4⟩,⟨p5,p6,p7⟩,⟨p8,p9⟩,p10⟩:=this;exact #[p1,p2,p3,p4,p5,p6,p7,p8,p9,p10]
theorem fw.Ju (R:fw c H a A n k) (e1:H A.r=some (.dK kvs)) (e2:BN 7 kvs) (e3:∀n:Nat,(aY kvs (.inl (n:Int))).isSome=dJ k n) {w:Nat} (hw:w<7) (v:V):fw c (upd H A.r (.dK (putK kvs (.inl (w:Int)) v))) a A n (k++[.rest w]):=by
 obtain ⟨p1,p2,p3,p4,p5,p6,p7,p8,p9,p10⟩:=R.O3;obtain ⟨ps,f1,_⟩:=R.feasts;have kk:=R.kept (.rest w) (b:=A.r) (o':=.dK (putK kvs (.inl (w:Int)) v));refine R.step _ e1 (.inl #[_,rfl]) p3 p4 #[_,ae,e2.O2 v hw,λm=>?_] (kk.2.1 (aX e1 f1 nofun) rfl) (kk.2.2.1 p1 λx z=>nomatch z) (kk.2.2.2 p2 λx z=>nomatch z);rw [d7,A9];by_cases z:m=w
 .subst z;rw [if_pos rfl];simp
 .rw [if_neg (λy=>z (by have:=Ui y;omega)),e3 m,decide_eq_false (λy=>z (by cases y;rfl)),Ut]
theorem fw.Jv (R:fw c H a A n k) (e1:H A.s=some (.dK kvs)) (e2:kvs.length<=k.length) (e3:∀n:Nat,(aY kvs (.inl (n:Int))).isSome=shutOn k n) (x:Date) (v:V):fw c (upd H A.s (.dK (putK kvs (.inl ((dayOf x:Nat):Int)) v))) a A n (k++[.shut x]):=by obtain ⟨p1,p2,p3,p4,p5,p6,p7,p8,p9,p10⟩:=R.O3;obtain ⟨ps,f1,_⟩:=R.feasts;have kk:=R.kept (.shut x) (b:=A.s) (o':=.dK (putK kvs (.inl ((dayOf x:Nat):Int)) v));refine R.step _ e1 (.inl #[_,rfl]) p6 p7 (kk.1 (λz=>p1 z.symm) λw z=>nomatch z) (kk.2.1 (aX e1 f1 nofun) rfl) ?_ (kk.2.2.2 p5 λx z=>nomatch z);refine (mZ.put e2 e3 (dayOf x) v).of (Sf _) (λo e=>e) λm=>?_;rw [A_];rfl
theorem fw.Jw (R:fw c H a A n k) (e1:H A.o=some (.dK kvs)) (e2:kvs.length<=k.length) (e3:∀n:Nat,(aY kvs (.inl (n:Int))).isSome=openOn k n) (x:Date) (v:V):fw c (upd H A.o (.dK (putK kvs (.inl ((dayOf x:Nat):Int)) v))) a A n (k++[.open_ x]):=by obtain ⟨p1,p2,p3,p4,p5,p6,p7,p8,p9,p10⟩:=R.O3;obtain ⟨ps,f1,_⟩:=R.feasts;have kk:=R.kept (.open_ x) (b:=A.o) (o':=.dK (putK kvs (.inl ((dayOf x:Nat):Int)) v));refine R.step _ e1 (.inl #[_,rfl]) p8 p9 (kk.1 (λz=>p2 z.symm) λw z=>nomatch z) (kk.2.1 (aX e1 f1 nofun) rfl) (kk.2.2.1 (λz=>p5 z.symm) λx z=>nomatch z) ?_;refine (mZ.put e2 e3 (dayOf x) v).of (Sf _) (λo e=>e) λm=>?_;rw [Ba];rfl
theorem fw.Bb (R:fw c H a A n k) (e1:H A.f=some (.lst (ps.map V.ref))) (e2:cC (dN c H) ps (aF k)) (hf:dN c H q f):fw c (upd H A.f (.lst (ps.map V.ref++[.ref q]))) a A n (k++[.feast f]):=by obtain ⟨kr,r1,_⟩:=R.rest;obtain ⟨ks,s1,_⟩:=R.shut;obtain ⟨ko,o1,_⟩:=R.opened;have kk:=R.kept (.feast f) (b:=A.f) (o':=.lst (ps.map V.ref++[.ref q]));refine R.step _ e1 (.inr #[_,rfl]) (aX e1 R.cl nofun) (aX e1 R.no nofun) (kk.1 (aX e1 r1 nofun) λw z=>nomatch z) #[ps++[q],by rw [ae,Sw];rfl,?_] (kk.2.2.1 (aX e1 s1 nofun) λx z=>nomatch z) (kk.2.2.2 (aX e1 o1 nofun) λx z=>nomatch z);rw [ul];exact e2.snoc hf
end
theorem E_ (t:SV):saidOf t=match cut 32 t with
 |a::l=>
  if a=ascii "rest" then (match l with
   |[w]=>(weekdayOf w).map .rest
   |_=>none)
  else if a=ascii "feast" then feastOf false l
  else if a=ascii "moved" then (match l with
   |b::r=>if b=ascii "feast" then feastOf true r else none
   |[]=>none)
  else if a=ascii "shut" then (match l with
   |[x]=>(fullDate x).map .shut
   |_=>none)
  else if a=ascii "open" then (match l with
   |[x]=>(fullDate x).map .open_
   |_=>none)
  else none
 |[]=>none:=rfl
theorem Mp:∀t∈[ascii "moved",ascii "feast"],ju t:=by
 intro t ht;rcases (Sg).mp ht with rfl|ht
 .exact #[by decide,by decide]
 .rw [(SB).mp ht];exact #[by decide,by decide]
theorem O4:[V.str (Sj "moved"),.str (Sj "feast")]=[ascii "moved",ascii "feast"].map sS:=by rw [dm,dm];rfl
theorem Fa (l:List SV) (k:Nat):(l.map sS).take k=(l.take k).map sS:=(List.map_take).symm
section
theorem r6:al ["calendar","words"] ["calendar","words"] (ah (top 69)):=by ext
noncomputable def r8 (c:Cl):Sp:=J9 λ(a:KE) (A:CA) (n:Nat) (k:Calendar) (p:KE) (t:SV) vs H Q E=>vs=[.ref a,.ref p]/\fw c H a A n k/\k.length<=20/\H p=some (.lst ((cut 32 t).map sS))/\ju t/\
 (∀s,saidOf t=some s->∀H',Dd A H H'->fw c H' a A n (k++[s])->Q .bZ H')/\(saidOf t=none->∀H',Dd A H H'->E (.ref c.bp) none H')
theorem r9 (T:Tx):FO (cf P w) 7 "add_sentence" ["calendar","words"] (r8 c):=by
 refine T.sL.gX r6 (by ext) λf _ _ _ _ H vs Q E hr h=>?_;obtain ⟨a,A2,n,k,p,t,rfl,R,hk,hp,ha,k1,k2⟩:=h;have hu:=ir hr;have hu64:=hr.units;exists (ac (aL (aA dF (cR (pv 1) ag) bv (aE _)) (ac (bA (dG Sr SD SF bD (aq (pv 0) rfl) (aV (bK (nJ T) hr.m (cz (cX ic (pv 1) (cr ag) ib) kY)))))) (ac (aL (aA (K8 hu64) (cX ic (pv 1) ib (cr ag)) (aQ (cz bv bv)) (aE _)) (ac (bA (dG Sr SD SF bD (aq (pv 0) rfl) (aV (bK (nJ T) hr.m (cz (cX ic (pv 1) (cr ag) ib) kY)))))) (ac (aL (aA z3 (aJ cu (by rfl) T.eQ S0 (aV (pv 1))) ag (aE _)) (ac (bw newX rfl rfl T.bu T.bn)) (ac (aL (aA dF (cR (pv 1) ag) bv (aE _)) (ac (gt hu (aq (pv 0) rfl) (bK (gY T) hr.m (aV (cR (pv 1) ag))) kY rfl)) (ac (aL (aA dF (cR (pv 1) ag) bv (aE _)) (ac (gt hu (aq (pv 0) rfl) (bK (rk T) hr.m (aV (cR (pv 1) ag))) kY rfl)) (ac (aL (aA dF (cR (pv 1) ag) bv (aE _)) (ac (gt hu (aq (pv 0) rfl) (bK (rk T) hr.m (aV (cR (pv 1) ag))) kY rfl)) (ac (bw newX rfl rfl T.bu T.bn))))))))))))));obtain ⟨x,l,e⟩:∃x l,cut 32 t=x::l:=by
  cases e:cut 32 t with
  |nil=>exact absurd e (qw 32 t)
  |cons x l=>exact #[x,l,rfl]
 have hal:∀y∈x::l,ju y:=λy hy=>ha.cut (c:=32) (by rw [e];exact hy);rw [E_,e] at k1 k2;dsimp only at k1 k2;rw [e] at hp;have hp:H p=some (.lst (sS x::l.map sS)):=hp;rfl';by_cases c1:S x=Sj "feast"
 .have ex:=eq_str.mp c1;rw [if_neg (by rw [ex];decide),if_pos ex,uj] at k1 k2;rw [if_pos c1];rfl';refine ay R.obj T.aB T.dt rfl ?_;obtain ⟨ps,f1,f2⟩:=R.feasts;rfl';refine tQ (cB.of hp) λq hq=>?_;have s0:aj H (upd H q (.lst (fD (sS x::l.map sS) (some 1) none))):=aj.upd hq;have hq1:upd H q (.lst (fD (sS x::l.map sS) (some 1) none)) q=some (.lst (l.map sS)):=by rw [ae,show fD (sS x::l.map sS) (some 1) none=l.map sS from mJ _ 1]
  generalize upd H q (.lst (fD (sS x::l.map sS) (some 1) none))=H1 at s0 hq1;rfl';refine #[q,l,false,rfl,hq1,λy hy=>hal y (Sh _ hy),λf hf H2 z s2 hz=>?_,λhf H2 s2=>?_]
  .rw [hf] at k1;have s3:=s0.trans s2;have f3:=s3 _ _ f1;have hl:ps.length<=20:=by have:=f2.length;have h2:=jk k;have:k.countP iV<=k.length:=List.countP_le_length;omega
   rfl';refine bN f3 (by rw [w4];exact aI (by omega)) ?_;exact k1 _ rfl _ ((Dd.of s3).trans (.upd (.inr (.inl rfl)))) ((R.to s3).Bb f3 (f2.imp λp f h=>h.to s3) hz)
  .rw [hf] at k2;exact k2 rfl _ (.of (s0.trans s2))
 .have nx:x≠ascii "feast" :=λz=>c1 (eq_str.mpr z);rw [if_neg c1];rw [if_neg nx] at k1 k2;rfl';refine tQ (cB.of hp) λq hq=>?_;have s0:aj H (upd H q (.lst (fD (sS x::l.map sS) none (some 2)))):=aj.upd hq;have hq1:upd H q (.lst (fD (sS x::l.map sS) none (some 2))) q=some (.lst (((x::l).take 2).map sS)):=by rw [ae,show fD (sS x::l.map sS) none (some 2)=((x::l).map sS).take 2 from w6 _ 2,Fa]
  generalize upd H q (.lst (fD (sS x::l.map sS) none (some 2)))=H1 at s0 hq1;rfl';refine #[by show 2<=sizeLine;decide,λm hm=>?_];have s1:aj H1 (upd H1 m (.lst [V.str (Sj "moved"),.str (Sj "feast")])):=aj.upd hm;have hm1:upd H1 m (.lst [V.str (Sj "moved"),.str (Sj "feast")]) m=some (.lst ([ascii "moved",ascii "feast"].map sS)):=by rw [ae,O4]
  have hq2:=s1 _ _ hq1;have s2:=s0.trans s1;generalize upd H1 m (.lst [V.str (Sj "moved"),.str (Sj "feast")])=H2 at s1 hm1 hq2 s2;refine O1 hq2 hm1 (λy hy=>hal y (List.mem_of_mem_take hy)) Mp ?_;have hp2:=s2 _ _ hp;have R2:=R.to s2;rfl';by_cases c2:(x::l).take 2=[ascii "moved",ascii "feast"]
  .obtain ⟨r,rfl,rfl⟩:∃r,x=ascii "moved" /\l=ascii "feast" ::r:=by
    match l,c2 with
    |[],c2=>simp at c2
    |y::r,c2=>simp at c2;exact #[r,c2.1,by rw [c2.2]]
   rw [if_pos c2];rw [if_neg (by decide),if_pos rfl] at k1 k2;dsimp only at k1 k2;rw [if_pos rfl,uj] at k1 k2;rfl';refine ay R2.obj T.aB T.dt rfl ?_;obtain ⟨ps,f1,f2⟩:=R2.feasts;rfl';refine tQ (cB.of hp2) λq3 hq3=>?_;have s3:aj H2 (upd H2 q3 (.lst (fD (sS (ascii "moved")::(ascii "feast" ::r).map sS) (some 2) none))):=aj.upd hq3;have hq4:upd H2 q3 (.lst (fD (sS (ascii "moved")::(ascii "feast" ::r).map sS) (some 2) none)) q3=some (.lst (r.map sS)):=by rw [ae,show fD (sS (ascii "moved")::(ascii "feast" ::r).map sS) (some 2) none=r.map sS from mJ _ 2]
   generalize upd H2 q3 (.lst (fD (sS (ascii "moved")::(ascii "feast" ::r).map sS) (some 2) none))=H3 at s3 hq4;rfl';refine #[q3,r,true,rfl,hq4,λy hy=>hal y (Sh _ (Sh _ hy)),λf hf H4 z s4 hz=>?_,λhf H4 s4=>?_]
   .rw [hf] at k1;have s5:=s3.trans s4;have f3:=s5 _ _ f1;have hl:ps.length<=20:=by have:=f2.length;have h2:=jk k;have:k.countP iV<=k.length:=List.countP_le_length;omega
    rfl';refine bN f3 (by rw [w4];exact aI (by omega)) ?_;exact k1 _ rfl _ ((Dd.of (s2.trans s5)).trans (.upd (.inr (.inl rfl)))) ((R2.to s5).Bb f3 (f2.imp λp f h=>h.to s5) hz)
   .rw [hf] at k2;exact k2 rfl _ (.of (s2.trans (s3.trans s4)))
  .rw [if_neg c2];rfl';have nm:x=ascii "moved" ->∀y r,l=y::r->y≠ascii "feast" :=λe1 y r e2 e3=>c2 (by rw [e1,e2,e3];rfl);by_cases c3:l.length=1
   .obtain ⟨y,rfl⟩:∃y,l=[y]:=by
     match l,c3 with
     |[y],_=>exact #[y,rfl]
    have hp2:H2 p=some (.lst [sS x,sS y]):=hp2;have hy:=hal y (by simp);refine wM rfl ?_;dsimp only at k1 k2;rfl';by_cases c4:S x=Sj "rest"
    .rw [if_pos c4];rw [if_pos (eq_str.mp c4)] at k1 k2;rfl';refine ay R2.obj T.aB T.bT rfl ?_;obtain ⟨kvs,r1,r2,r3⟩:=R2.rest;rfl';refine #[y,rfl,λv hv=>?_,λhv=>?_]
     .rw [hv] at k1;refine qu (n:=(v:Nat)) r1 (aI (by have:=r2.len;omega)) ?_;exact k1 _ rfl _ ((Dd.of s2).trans (.upd (.inl rfl))) (R2.Ju r1 r2 r3 (ff hv).2 _)
     .rw [hv] at k2;exact k2 rfl _ (.of s2)
    .rw [if_neg c4];rw [if_neg (λz=>c4 (eq_str.mpr z))] at k1 k2;rfl';by_cases c5:S x=Sj "shut"
     .rw [if_pos c5];have ex:=eq_str.mp c5;rw [if_neg (by rw [ex];decide),if_pos ex] at k1 k2;rfl';refine ay R2.obj T.aB T.dM rfl ?_;obtain ⟨kvs,r1,r2,r3⟩:=R2.shut;rfl';refine #[y,rfl,hy,λv hv H3 s3=>?_,λhv H3 s3=>?_]
      .rw [hv] at k1;refine qu (n:=(dayOf v:Nat)) (s3 _ _ r1) (aI (by omega)) ?_;exact k1 _ rfl _ ((Dd.of (s2.trans s3)).trans (.upd (.inr (.inr (.inl rfl))))) ((R2.to s3).Jv (s3 _ _ r1) r2 r3 v _)
      .rw [hv] at k2;exact k2 rfl _ (.of (s2.trans s3))
     .rw [if_neg c5];rfl';by_cases c6:S x=Sj "open"
      .rw [if_pos c6];have ex:=eq_str.mp c6;rw [if_neg (by rw [ex];decide),if_neg (by rw [ex];decide),if_pos ex] at k1 k2;rfl';refine ay R2.obj T.aB T.dg rfl ?_;obtain ⟨kvs,r1,r2,r3⟩:=R2.opened;rfl';refine #[y,rfl,hy,λv hv H3 s3=>?_,λhv H3 s3=>?_]
       .rw [hv] at k1;refine qu (n:=(dayOf v:Nat)) (s3 _ _ r1) (aI (by omega)) ?_;exact k1 _ rfl _ ((Dd.of (s2.trans s3)).trans (.upd (.inr (.inr (.inr rfl))))) ((R2.to s3).Jw (s3 _ _ r1) r2 r3 v _)
       .rw [hv] at k2;exact k2 rfl _ (.of (s2.trans s3))
      .rw [if_neg c6];rfl';refine k2 ?_ _ (.of s2);rw [if_neg (λz=>c5 (eq_str.mpr z)),if_neg (λz=>c6 (eq_str.mpr z))];by_cases c7:x=ascii "moved"
       .rw [if_pos c7,if_neg (nm c7 y [] rfl)]
       .rw [if_neg c7]
   .refine k8 (λz=>c3 ?_) ?_
    .simp only [Si,w4] at z;omega
    .rfl';refine k2 ?_ _ (.of s2);have no1:∀{α:Type} (f:SV->Option α),(match l with|[y]=>f y|_=>none)=none:=λ{α} f=>by
      match l,c3 with
      |[],_=>rfl
      |[y],c3=>exact absurd rfl c3
      |y::z::r,_=>rfl
     rw [no1,no1,no1];by_cases c7:x=ascii "moved"
     .rw [if_neg (by rw [c7];decide),if_pos c7]
      match l,nm c7 with
      |[],_=>rfl
      |y::r,nm=>dsimp only;rw [if_neg (nm y r rfl)]
     .rw [if_neg c7]
      repeat' split
      all_goals rfl
end
noncomputable def AllIn (t:SV):Prop:=∀c∈t,c∈SG
theorem AllIn.app (h:AllIn a) (g:AllIn b):AllIn (a++b):=λc hc=>((SU).mp hc).elim (h c) (g c)
theorem AllIn.cons {x:Nat} (h:x∈SG) (g:AllIn b):AllIn (x::b):=λc hc=>((Sg).mp hc).elim (λe=>e▸h) (g c)
theorem AllIn.nil:AllIn []:=λc h=>nomatch h
theorem Hq:∀c,c<58->48<=c->c∈SG:=by decide
theorem dC (n:Nat):AllIn (digits n):=by
 induction n using Nat.strongRecOn with
 |_ n ih=>
  by_cases h:n<10
  .rw [qx h];exact .cons (Hq _ (by omega) (by omega)) .nil
  .have e:n=10*(n/10)+n%10:=by omega
   rw [e,q_ (by omega) (by omega)];exact (ih _ (by omega)).app (.cons (Hq _ (by omega) (by omega)) .nil)
theorem kK {x:Nat} (hx:x∈SG):∀ps:List SV,(∀p∈ps,AllIn p)->AllIn (joined x ps)
 |[],_=>.nil
 |[a],h=>h a Sk
 |a::b::l,h=>(h a Sk).app (.cons hx (kK hx (b::l) λp hp=>h p (Sh _ hp)))
theorem um (w:Nat):AllIn (WEEKDAYS.getD w []):=by
 have h:∀p∈WEEKDAYS,∀c∈p,c∈SG:=by decide
 rw [List.getD_eq_getElem?_getD];cases e:WEEKDAYS[w]? with
 |none=>exact .nil
 |some p=>exact h p (SE e)
theorem gu (l:List Nat):AllIn (slashed l):=kK (by decide) _ λp hp=>by obtain ⟨n,_,rfl⟩:=(Te).mp hp;exact dC n
theorem Bc (x:When):∀p∈wordsOf x,AllIn p:=by
 intro p hp;cases x with
 |fixed m d=>rw [(SB).mp hp];exact gu _
 |moon off=>
  rw [(SB).mp hp];refine AllIn.app (by unfold AllIn;decide) ?_;split
  .exact .nil
  .refine AllIn.app ?_ (dC _);split
   .exact .cons (by decide) .nil
   .exact .cons (by decide) .nil
 |nth k w m=>
  simp only [Vbptaa.wordsOf,Sg,SI,or_false] at hp;rcases hp with rfl|rfl|rfl
  .split
   .unfold AllIn;decide
   .exact dC _
  .exact um _
  .exact dC _
 |from_ w m d=>
  simp only [Vbptaa.wordsOf,Sg,SI,or_false] at hp;rcases hp with rfl|rfl|rfl
  .exact um _
  .unfold AllIn;decide
  .exact gu _
theorem De (s:Said):AllIn (shownSaid s):=by
 unfold shownSaid;refine kK (by decide) _ λp hp=>?_;cases s with
 |rest w=>
  simp only [Sg,SI,or_false] at hp;rcases hp with rfl|rfl
  .unfold AllIn;decide
  .exact um _
 |shut x=>
  simp only [Sg,SI,or_false] at hp;rcases hp with rfl|rfl
  .unfold AllIn;decide
  .exact gu _
 |open_ x=>
  simp only [Sg,SI,or_false] at hp;rcases hp with rfl|rfl
  .unfold AllIn;decide
  .exact gu _
 |feast f=>
  have hp:p∈(if f.moves=true then [ascii "moved"] else [])++(ascii "feast" ::(wordsOf f.at_++(match f.years with
   |none=>[]
   |some r=>[digits r.1++(45::digits r.2)]))):=hp
  rcases (SU).mp hp with hp|hp
  .split at hp
   .rw [(SB).mp hp];unfold AllIn;decide
   .cases hp
  .rcases (Sg).mp hp with rfl|hp
   .unfold AllIn;decide
   .rcases (SU).mp hp with hp|hp
    .exact Bc _ p hp
    .split at hp
     .cases hp
     .rw [(SB).mp hp];exact (dC _).app (.cons (by decide) (dC _))
theorem uo (k:Calendar):AllIn (shownCalendar k):=λc hc=>by obtain ⟨s,_,h⟩:=List.mem_flatMap.mp hc;exact (De s).app (.cons (by decide) .nil) c h
theorem vP (h:¬∀c∈t,c∈SG):calendarOf t=none:=by
 cases e:calendarOf t with
 |none=>rfl
 |some k=>have:=(jP e).1;exact absurd (this▸uo k) h
theorem D8 (kvs:List (Key×V)) (k:Key):(aY kvs k).isSome=true↔k∈kvs.map (·.1):=by unfold aY;rw [Option.isSome_map,List.find?_isSome,Te];simp only [decide_eq_true_eq]
theorem O5 (h:BN 7 kvs):kvs.length=7↔∀w:Nat,w<7->(aY kvs (.inl (w:Int))).isSome=true:=by
 obtain ⟨ns,e,hn⟩:=ug 7 (kvs.map (·.1)) λk hk=>by obtain ⟨p,hp,rfl⟩:=(Te).mp hk;exact h.2 p hp
 have nd:ns.Nodup:=by have:=h.1;rw [e] at this;unfold List.Nodup at this ⊢;rw [List.pairwise_map] at this;exact this.imp λh e=>h (by rw [e])
 have el:kvs.length=ns.length:=by
  have:=congrArg T7 e
  rwa [w4,w4] at this
 have mem:∀w:Nat,(aY kvs (.inl (w:Int))).isSome=true↔w∈ns:=λw=>by
  rw [D8,e,Te];constructor
  .rintro ⟨m,hm,z⟩;have:m=w:=by have:=Ui z;omega
   rw [<-this];exact hm
  .intro hm;exact #[w,hm,rfl]
 rw [el];constructor
 .intro hl w hw;rw [mem];refine S7 λz=>?_;have:=jV 7 (w::ns) ((TH).mpr #[z,nd]) λk hk=>by
   rcases (Sg).mp hk with rfl|hk
   .exact hw
   .exact hn k hk
  rw [Si] at this;omega
 .intro hw;have h1:=jV 7 ns nd hn;have h2:=nZ (λi=>i) (λi j e=>e) 7 ns λj hj=>(mem j).mp (hw j hj);omega
theorem Hr {α:Type} {l:List α} {x:α}:Co (l++[x]) (-1)=some x:=by unfold Co Fs;rw [if_neg (by decide),Sq];rw [if_pos (by simp;omega)];show (l++[x])[((-1:Int)+((l.length+1:Nat):Int)).toNat]? =some x;rw [show ((-1:Int)+((l.length+1:Nat):Int)).toNat=l.length by omega];simp
theorem Fb (l:List V) (x:V):fD (l++[x]) none (some (-1))=l:=by
 unfold fD;rw [HT.tu,List.drop_zero,Nat.sub_zero];have e:HT.gr (l++[x]).length (l++[x]).length (some (-1))=l.length:=by show (if (-1:Int)<0 then ((-1:Int)+((l++[x]).length:Int)).toNat else min (-1:Int).toNat (l++[x]).length)=l.length;rw [if_pos (by decide),Sq];simp;omega
 rw [e];simp
theorem kL {α β:Type} {f:α->Option β}:∀(l:List α) (x:α),allSome ((l++[x]).map f)=(allSome (l.map f)).bind λr=>(f x).map λy=>r++[y]
 |[],x=>by
  show allSome [f x]=_;cases e:f x with
  |none=>rfl
  |some y=>rfl
 |a::l,x=>by
  have ih:=kL (f:=f) l x;show allSome (f a::((l++[x]).map f))=(allSome (f a::l.map f)).bind _;cases e:f a with
  |none=>rfl
  |some y=>
   show (allSome ((l++[x]).map f)).map (λr=>y::r)=((allSome (l.map f)).map λr=>y::r).bind _;rw [ih];cases allSome (l.map f) with
   |none=>rfl
   |some r=>cases f x<;>rfl
theorem kM {α β:Type} {f:α->Option β}:∀(l:List α) {x:α},x∈l->f x=none->allSome (l.map f)=none
 |[],x,h,_=>nomatch h
 |a::l,x,h,e=>by
  show allSome (f a::l.map f)=none;cases ea:f a with
  |none=>rfl
  |some y=>
   rcases (Sg).mp h with rfl|h
   .rw [e] at ea;cases ea
   .show (allSome (l.map f)).map _=none;rw [kM l h e];rfl
theorem qD (e:cut 59 t=l++[x]):calendarOf t=if x≠[]\/20<l.length then none else match allSome (l.map saidOf) with
 |none=>none
 |some c=>if ((SR 7).all λw=>c.contains (.rest w))=true then none else some c:=by
 unfold calendarOf;dsimp only;rw [e,List.getLast?_append,List.dropLast_concat];have h1:(([x]:List SV).getLast?).or l.getLast? =some x:=rfl;rw [h1,Sq];have h2:(some x≠some []\/SENTENCES<l.length+[x].length - 1)↔(x≠[]\/20<l.length):=by unfold SENTENCES;simp
 by_cases z:x≠[]\/20<l.length
 .rw [if_pos (h2.mpr z),if_pos z]
 .rw [if_neg (λy=>z (h2.mp y)),if_neg z];rfl
theorem O6:Sj " " =S [32]:=by rw [dm];rfl
theorem O7:Sj ";" =S [59]:=by rw [dm];rfl
section
theorem di:al ["codes","parts","sentences","calendar","sentence"] ["codes"] (ah (top 68)):=by ext
noncomputable def qE (c:Cl):Sp:=Jf λ(p:KE) (t:SV) vs H Q E=>vs=[.ref p]/\H p=some (.lst (t.map nI))/\t.length<=800/\
 (∀k,calendarOf t=some k->∀H' a A,aj H H'->H a=none->(∀b,(b=A.r\/b=A.f\/b=A.s\/b=A.o\/b=A.cl\/b=A.no)->H b=none)->fw c H' a A k.length k->Q (.ref a) H')/\(calendarOf t=none->∀H',aj H H'->E (.ref c.bp) none H')
theorem qF (T:Tx):FO (cf P w) 8 "read_calendar" ["codes"] (qE c):=by
 refine T.rC.gX di (by ext) λ_ _ _ _ s H vs Q E hr h=>?_;obtain ⟨p,t,rfl,hp,hl,k1,k2⟩:=h;have hu:=ir hr;exists (aa (bt 1 di.nd (tN (bK (uh T) hr.m (aV (pv 0))) bv))
  (aa (bt 2 di.nd (cX ic (pv 1) ib (cr (k6 gP ag))))
  (aa (aL (PW.pt (nh (aA z3 (cR (pv 1) (k6 gP ag)) bv (aE _)) (jf (aA iP (aJ cu (by rfl) T.eQ S0 (aV (pv 2))) (gI 20 T.pW rfl) (aE _))))) (ac (bw newX rfl rfl T.bu T.bn)) aC)
  (aa (bt 3 di.nd (CC (rg T) hr.m rfl bq))
  (aa (a9 (pv 3) (aJ cu (by rfl) T.eQ S0 (aV (pv 2))) rfl)
  (aa (cp Ta rfl (cb (pv 2)) (bg (i:=4) di.nd rfl (by first|exact Tk rfl|exact Tp rfl)) (ac (bA (bK (r9 T) hr.m (cz (pv 3) (tN (pv 4) bv))))))
  (aa (aL (aA dF (aJ IS (by rfl) T.eQ S0 (aV (aq (pv 3) rfl))) ag (aE _)) (ac (bw newX rfl rfl T.bu T.bn)) aC)
  (ac (am (pv 3))))))))))
 rfl';refine #[p,t,rfl,hp,hl,λH1 s1 hin=>?_,λH1 s1 hin=>k2 (vP hin) _ s1];have ha:ju t:=#[hl,λx hx=>Kc x (hin x hx)];rfl';rw [O7];refine ye (by rw [eV];rfl) ha.sl λq hq=>?_;rw [show Uu (S t) (S [59])=(cut 59 t).map S from yJ 59 t,Da];obtain ⟨l,x,e⟩:∃l x,cut 59 t=l++[x]:=by
  rcases List.eq_nil_or_concat (cut 59 t) with z|⟨l,x,z⟩
  .exact absurd z (qw 59 t)
  .exact #[l,x,by rw [z,List.concat_eq_append]]
 rw [qD e] at k1 k2;have hal:∀y∈l,ju y:=λy hy=>ha.cut (c:=59) (by rw [e];simp [hy]);rw [e,Sw];have s2:aj H (upd H1 q (.lst (l.map sS++[x].map sS))):=s1.trans (aj.upd hq);have hq2:upd H1 q (.lst (l.map sS++[x].map sS)) q=some (.lst (l.map sS++[sS x])):=ae;generalize upd H1 q (.lst (l.map sS++[x].map sS))=H2 at s2 hq2;rfl';refine tQ (cB.of hq2) λq3 hq3=>?_;rw [Fb];have s3:aj H (upd H2 q3 (.lst (l.map sS))):=s2.trans (aj.upd hq3);have hq4:upd H2 q3 (.lst (l.map sS)) q3=some (.lst (l.map sS)):=ae;have hq5:upd H2 q3 (.lst (l.map sS)) q=some (.lst (l.map sS++[sS x])):=aj.upd hq3 _ _ hq2;generalize upd H2 q3 (.lst (l.map sS))=H3 at s3 hq4 hq5;rfl';refine oW (cB.of hq5) Hr ?_;rfl';by_cases c1:S x=Sj ""
 .rw [if_pos c1];have ex:x=[]:=eq_str.mp c1;rfl';rw [w4];by_cases c2:(20:Int)<(l.length:Nat)
  .rw [if_pos c2];rfl';exact k2 (if_pos (.inr (by omega))) _ s3
  .rw [if_neg c2];have hn:¬(x≠[]\/20<l.length):=λz=>z.elim (λy=>y ex) (by omega);rw [if_neg hn] at k1 k2;rfl';intro a dx hx hdx hne;refine #[a,dx,rfl,ae,λH4 A4 kp edx new nd ob e1 e2 e3 e4 e5 e6=>#[rfl,?_]];have s4:aj H3 H4:=aj.made hx hdx kp;have new3:∀b,(b=A4.r\/b=A4.f\/b=A4.s\/b=A4.o\/b=A4.cl\/b=A4.no)->H3 b=none:=λb hb=>by
    cases z:H3 b with
    |none=>rfl
    |some u=>have:=new b hb;rw [ai (ak z hx),ai (ak z hdx),z] at this;cases this
   have hq7:=s4 _ _ hq4;rfl';rw [w4];refine #[a,_,_,_,rfl,ob,T.aB,T.dL,by show 7<1000;decide,?_];have R0:fw c (upd H4 a (.ins c.Calendar A4.dx (l6 l.length A4))) a A4 l.length []:=by
    have ka:∀{b u},H4 b=some u->(∀C dx fs,u≠.ins C dx fs)->upd H4 a (.ins c.Calendar A4.dx (l6 l.length A4)) b=some u:=λ{b u} z hu=>by rw [ai (aX z ob (hu _ _ _))];exact z
    exact #[ae,#[[],ka e1 nofun,#[.nil,λp h=>nomatch h],λn=>rfl],#[[],ka e2 nofun,.nil],#[[],ka e3 nofun,Sf _,λn=>rfl],#[[],ka e4 nofun,Sf _,λn=>rfl],ka e5 nofun,ka e6 nofun,nd]
   have s5:aj H3 (upd H4 a (.ins c.Calendar A4.dx (l6 l.length A4))):=λb o z=>by rw [ai (ak z hx)];exact s4 b o z
   show FJ _ _ _ _ (upd H4 a (.ins c.Calendar A4.dx (l6 l.length A4)));generalize upd H4 a (.ins c.Calendar A4.dx (l6 l.length A4))=H5 at R0 s5;have hq6:=s5 _ _ hq4;rfl';refine bR (xs:=l.map sS) (λi σ' H'=>(aj H3 H'/\∃ks,fw c H' a A4 l.length ks/\ks.length=i/\allSome ((l.take i).map saidOf)=some ks)/\∃v,σ'=[some (.ref p),some (.ref q),some (.ref q3),some (.ref a),v]) #[#[s5,[],R0,rfl,rfl],_,rfl] (λi σ' H' _ h=>cB.of (h.1.1 _ _ hq4)) ?_ ?_
   .rintro i y σ' H' hy ⟨⟨sH,ks,R,lk,ek⟩,v,rfl⟩;obtain ⟨z,hz,rfl⟩:=ee hy;have hz1:=hal z (fv hz);have hi:i<l.length:=((Sl).mp hz).1;rfl';rw [O6];refine ye (by rw [eV];rfl) hz1.sl λm hm=>?_;rw [show Uu (S z) (S [32])=(cut 32 z).map S from yJ 32 z,Da];have s6:aj H' (upd H' m (.lst ((cut 32 z).map sS))):=aj.upd hm;rfl';refine #[a,A4,l.length,ks,m,z,rfl,R.to s6,by omega,ae,hz1,λs hs H7 k7 R7=>?_,λhs H7 k7=>?_]
    .refine #[#[λb o e=>?_,ks++[s],R7,by rw [Sq,lk];rfl,?_],_,rfl]
     .exact k7 b o (s6 b o (sH b o e)) (ak e (new3 _ (.inl rfl))) (ak e (new3 _ (.inr (.inl rfl)))) (ak e (new3 _ (.inr (.inr (.inl rfl))))) (ak e (new3 _ (.inr (.inr (.inr (.inl rfl))))))
     .rw [take_snoc hz,kL,ek,hs];rfl
    .refine k2 ?_ _ (s3.trans λb o e=>k7 b o (s6 b o (sH b o e)) (ak e (new3 _ (.inl rfl))) (ak e (new3 _ (.inr (.inl rfl)))) (ak e (new3 _ (.inr (.inr (.inl rfl))))) (ak e (new3 _ (.inr (.inr (.inr (.inl rfl)))))));rw [kM l (fv hz) hs]
   .rintro σ' H' ⟨⟨sH,ks,R,lk,ek⟩,v,rfl⟩;rw [w4] at lk ek;rw [SX] at ek;rw [ek] at k1 k2;dsimp only at k1 k2;rfl';refine ay R.obj T.aB T.bT rfl ?_;obtain ⟨kvs,r1,r2,r3⟩:=R.rest;rfl';have h7:=O5 r2;have e7:kvs.length=7↔((SR 7).all λw=>ks.contains (.rest w))=true:=by
     rw [h7,Th];constructor
     .intro h w hw;have:=h w ((TU).mp hw);rw [r3 w] at this;exact this
     .intro h w hw;rw [r3 w];exact h w ((TU).mpr hw)
    by_cases c3:kvs.length=7
    .rw [if_pos (e7.mp c3)] at k2;refine wM (by rw [c3];rfl) ?_;rfl';exact k2 rfl _ (s3.trans sH)
    .rw [if_neg (λz=>c3 (e7.mpr z))] at k1;refine k8 (λz=>c3 (by omega)) ?_;rfl';refine k1 ks rfl _ a A4 (s3.trans sH) (s3.free hx) (λb hb=>s3.free (new3 b hb)) ?_;rw [lk];exact R
 .rw [if_neg c1];rfl';exact k2 (if_pos (.inl λz=>c1 (eq_str.mpr z))) _ s3
end
noncomputable def Nd:HO->Prop
 | .dK _=>False
 | .jC _=>False
 |_=>True
theorem Nd.k (h:Nd o) (kvs:List (Key×V)):o≠.dK kvs:=λz=>by subst z;exact h
theorem Nd.t (h:Nd o) (ps:Array UU):o≠.jC ps:=λz=>by subst z;exact h
theorem mT.to (h:mT c H) (t:∀ps,H c.tab=some (.jC ps)->H' c.tab=some (.jC ps)) (k:∀b φ,H b=some (.ext φ)->H' b=some (.ext φ)):mT c H':=by
 obtain ⟨ps,e,q⟩:=h;refine #[ps,t ps e,?_];rcases q with q|⟨a,q1,q2⟩
 .exact .inl q
 .exact .inr #[a,q1,k _ _ q2]
structure OA where
 o:KE
 dx:KE
 L:KE
 D:KE
 X:KE
 G:KE
noncomputable def Mem (pas:List (KE×CA)) (b:KE):Prop:=∃z∈pas,b=z.2.cl\/b=z.2.no
noncomputable def dS (O:OA) (pas:List (KE×CA)) (b:KE):Prop:=Mem pas b\/b=O.D
noncomputable def Ap (y z:KE×CA):Prop:=y.2.cl≠z.2.cl/\y.2.cl≠z.2.no/\y.2.no≠z.2.cl/\y.2.no≠z.2.no
noncomputable def yO (x:Land):Prop:=-720<=x.ahead/\x.ahead<=840/\x.post<=30/\(shownCalendar x.calendar).length<=800
noncomputable def iG (c:Cl) (H:Hp) (p a:KE) (x:Land):Prop:=∃dx t,H p=some (.ins c.Land dx [("ahead",.int x.ahead),("post",.int (x.post:Nat)),("text",.ref t),("calendar",.ref a)])/\H t=some (.lst ((shownCalendar x.calendar).map nI))
noncomputable def Bd (c:Cl) (M:KE->Prop) (H:Hp) (z:KE×CA) (x:Land):Prop:=∃a,iG c H z.1 a x/\bz c M H a z.2 x.calendar/\yO x
noncomputable def mK:One->String
 | .receipt=>"receipt"
 | .open_=>"open"
 | .back=>"back"
 | .month=>"month"
 | .going=>"going"
noncomputable def px:Unit_->String
 | .day=>"d"
 | .week=>"w"
 | .month=>"m"
 | .year=>"y"
 | .open_=>"o"
noncomputable def l_:OLm.Step->List V
 | .start=>[.str (Sj "start"),.int 0]
 | .later=>[.str (Sj "later"),.int 0]
 | .dA=>[.str (Sj "earlier"),.int 0]
 | .one f=>[.str (Sj (mK f)),.int 0]
 | .plus u n=>[.str (Sj (px u)),.int (n:Nat)]
noncomputable def qG:OLm.Step->Prop
 | .plus u n=>n<=400/\(u= .open_->n<=20)
 |_=>True
noncomputable def Hs (H:Hp) (p:KE) (x:OLm.Step):Prop:=H p=some (.tup (l_ x))/\qG x
noncomputable def gl (H:Hp) (s:KE) (l:List OLm.Step):Prop:=∃ps:List KE,H s=some (.lst (ps.map V.ref))/\cC (Hs H) ps l
noncomputable def r_ (c:Cl) (H:Hp) (q:KE) (e:Limit):Prop:=∃dx t s,H q=some (.ins c.Limit dx [("text",.ref t),("steps",.ref s)])/\H t=some (.lst ((shownLimit e).map nI))/\(shownLimit e).length<=100/\gl H s (post e)
noncomputable def Be (c:Cl) (H:Hp) (v:Option V):Option Limit->Prop
 |none=>v=none
 |some e=>∃q,v=some (.ref q)/\r_ c H q e
noncomputable def vQ (c:Cl) (H:Hp) (p:KE) (x:Uw):Prop:=(∃dx,H p=some (.ins c.Act dx [("kind",.int (x.kind:Nat)),("place",.int (x.land:Nat)),("minute",.int (x.minute:Nat))]))/\x.kind<=9/\x.land<=3/\1440<=x.minute/\x.minute<=210378240
noncomputable def Nx (O:OA) (b:KE):Prop:=b≠O.L/\b≠O.X/\b≠O.G
noncomputable def Fc (O:OA) (H:Hp) (q:KE):Prop:=∀C dx fs,H q=some (.ins C dx fs)->∀f t,(f,V.ref t)∈fs->Nx O t
theorem Fc.to (h:Fc O H q) (e:H q=some o) (e':H' q=some o):Fc O H' q:=λC dx fs z=>h C dx fs (by rw [e];rw [e'] at z;exact z)
structure bI (c:Cl) (O:OA) (pas:List (KE×CA)) (H:Hp) (st:State):Prop where
 obj:∃s,H O.o=some (.ins c.dW O.dx [("lands",.ref O.L),("stretches",.ref s),("limits",.ref O.D),("acts",.ref O.X)])/\kF H s st.stops/\Nx O s
 lands:H O.L=some (.lst (pas.map λz=>V.ref z.1))
 each:cC (Bd c (dS O pas) H) pas st.lands
 ap:pas.Pairwise Ap
 len:st.lands.length=4
 limits:∃kvs:List (Key×V),H O.D=some (.dK kvs)/\BN 6 kvs/\(∀n:Nat,n<6->Be c H (aY kvs (.inl (n:Int))) (st.limits[n]?).join)/\∀k q,aY kvs k=some (.ref q)->Fc O H q/\∃e,r_ c H q e
 Df:st.limits.length=6
 nD:¬Mem pas O.D
 acts:∃xs:List KE,H O.X=some (.lst (xs.map V.ref))/\cC (vQ c H) xs st.acts
 Dg:st.acts.length<=30
 apart:Apart st.stops
 Bf:st.stops.length<=12
 sin:Ka 146096 st.stops
 Ke:O.L≠O.X
 nx:∀z∈pas,Nx O z.2.f/\Fc O H z.1
 tab:mT c H
 gv:(∃xs:List V,H O.G=some (.lst xs))/\O.L≠O.G/\O.X≠O.G
section
variable {M M':KE->Prop} {H H' H0:Hp} {a:KE} {A:CA} {k:Calendar}
theorem bz.move (R:bz c M H a A k) (s:aj H H') (h1:∀b,M' b->M b\/H b=none) (h2:M' A.cl) (h3:M' A.no) (mm:∀b,M' b->∃kvs:List (Key×V),H' b=some (.dK kvs)):bz c M' H' a A k:=by
 have nm:∀{b p},eZ H b p->¬M b->¬M' b:=λ{b p} hs hb z=>by
  obtain ⟨kvs,e,_⟩:=hs;rcases h1 b z with y|y
  .exact hb y
  .rw [e] at y;cases y
 have R2:=R.same s;refine #[R2.obj,R2.rest,R2.feasts,R2.shut,R2.opened,?_,R2.no,mm,nm R.rest R.nr,nm R.shut R.ns,nm R.opened R.Hk,h2,h3,R.ne,R.ok,R.rW];obtain ⟨kvs,e1,e2,e3⟩:=R.cl;refine #[kvs,s _ _ e1,e2,λy v h=>?_];obtain ⟨d,e,n,q⟩:=e3 y v h;exact #[d,e,nm q n,q.same λo z=>s _ _ z]
theorem bz.less (R:bz c M H a A k) (h1:∀b,M' b->M b) (h2:M' A.cl) (h3:M' A.no):bz c M' H a A k:=R.move (aj.refl _) (λb z=>.inl (h1 b z)) h2 h3 λb z=>R.mm b (h1 b z)
theorem fw.made (R:fw c H a A k.length k) (ok:jN k) (rW:∀s∈k,ku s) (mm:∀b,M b->∃kvs:List (Key×V),H b=some (.dK kvs)) (h1:¬M A.r) (h2:¬M A.s) (h3:¬M A.o) (h4:M A.cl) (h5:M A.no):bz c M H a A k:=by obtain ⟨kr,r1,r2,r3⟩:=R.rest;obtain ⟨ks,s1,s2,s3⟩:=R.shut;obtain ⟨ko,o1,o2,o3⟩:=R.opened;exact #[R.obj,#[kr,r1,r3],R.feasts,#[ks,s1,s3],#[ko,o1,o3],#[[],R.cl,#[.nil,λp h=>nomatch h],λy v h=>nomatch h],#[[],R.no,#[.nil,λp h=>nomatch h],λy v h=>nomatch h],mm,h1,h2,h3,h4,h5,R.O3.2.2.2.2.2.2.2.2.2,ok,rW]
theorem iG.to (h:iG c H p a x) (s:∀b o,H b=some o->Nd o->H' b=some o):iG c H' p a x:=by obtain ⟨dx,t,e1,e2⟩:=h;exact #[dx,t,s _ _ e1 trivial,s _ _ e2 trivial]
theorem gl.to (h:gl H s l) (k:∀b o,H b=some o->Nd o->H' b=some o):gl H' s l:=by obtain ⟨ps,e1,e2⟩:=h;exact #[ps,k _ _ e1 trivial,e2.imp λp x h=>#[k _ _ h.1 trivial,h.2]]
theorem kF.to {l:List (Nat×Nat)} (h:kF H s l) (k:∀b o,H b=some o->Nd o->H' b=some o):kF H' s l:=by obtain ⟨ps,e1,e2⟩:=h;exact #[ps,k _ _ e1 trivial,e2.imp λp x h=>k _ (.tup [.int x.1,.int x.2]) h trivial]
theorem r_.to (h:r_ c H q e) (k:∀b o,H b=some o->Nd o->H' b=some o):r_ c H' q e:=by obtain ⟨dx,t,s,e1,e2,e3,e4⟩:=h;exact #[dx,t,s,k _ _ e1 trivial,k _ _ e2 trivial,e3,e4.to k]
theorem vQ.to (h:vQ c H p x) (k:∀b o,H b=some o->Nd o->H' b=some o):vQ c H' p x:=by obtain ⟨⟨dx,e⟩,h⟩:=h;exact #[#[dx,k _ _ e trivial],h]
theorem Be.to (h:Be c H v o) (k:∀b o,H b=some o->Nd o->H' b=some o):Be c H' v o:=by
 cases o with
 |none=>exact h
 |some e=>obtain ⟨q,e1,e2⟩:=h;exact #[q,e1,e2.to k]
end
structure c8 (c:Cl) (M:KE->Prop) (pas:List (KE×CA)) (H:Hp) (st:State) (H':Hp):Prop where
 kp:∀b o,H b=some o->¬Mem pas b->b≠c.tab->H' b=some o
 ll:∀(j:Nat) z x,pas[j]? =some z->st.lands[j]? =some x->∃a,iG c H z.1 a x/\bz c M H' a z.2 x.calendar/\yO x
 mem:∀b,Mem pas b->M b
 dd:∀b,M b->∀o,H b=some o->∃kvs,o= .dK kvs
 tab:mT c H'
 tb:∃ps,H c.tab=some (.jC ps)
section
variable {O:OA} {M M':KE->Prop} {pas:List (KE×CA)} {H H1 H2:Hp} {st:State}
theorem cC.at {α β:Type} {R:α->β->Prop}:∀{l:List α} {m:List β},cC R l m->∀{i:Nat} {a:α} {b:β},l[i]? =some a->m[i]? =some b->R a b
 |_,_,.nil,i,a,b,h,_=>by simp at h
 |_,_,.cons r t,0,a,b,h,g=>by have e1:=Sd h;have e2:=Sd g;subst e1 e2;exact r
 |_,_,.cons r t,i+1,a,b,h,g=>t.at (i:=i) h g
theorem cC.mk' {α β:Type} {R:α->β->Prop}:∀{l:List α} {m:List β},l.length=m.length->(∀(i:Nat) a b,l[i]? =some a->m[i]? =some b->R a b)->cC R l m
 |[],[],_,_=>.nil
 |a::l,b::m,h,f=>.cons (f 0 a b rfl rfl) (cC.mk' (Nat.succ.inj h) λi a b h1 h2=>f (i+1) a b h1 h2)
 |[],_::_,h,_=>nomatch h
 |_::_,[],h,_=>nomatch h
theorem bI.dict (R:bI c O pas H st):∀b,dS O pas b->∃kvs:List (Key×V),H b=some (.dK kvs):=λb hb=>by
 rcases hb with hb|rfl
 .obtain ⟨z,hz,_⟩:=hb;obtain ⟨i,hi⟩:=Tt hz;obtain ⟨x,hx,a,_,C,_⟩:=R.each.get hi;exact C.mm b (.inl #[z,hz,‹_›])
 .obtain ⟨kvs,e,_⟩:=R.limits;exact #[kvs,e]
theorem bI.Ht (R:bI c O pas H st):pas.length=4:=R.each.length.trans R.len
theorem bI.k0 (R:bI c O pas H st):c8 c (dS O pas) pas H st H:=
 #[λb o e _ _=>e,λj z x h1 h2=>R.each.at h1 h2,λb h=>.inl h,λb hb o e=>by obtain ⟨kvs,e2⟩:=R.dict b hb;rw [e] at e2;exact #[kvs,Sd e2],R.tab,let ⟨ps,e,_⟩:=R.tab;⟨ps,e⟩]
theorem c8.nd (K:c8 c M pas H st H1):∀b o,H b=some o->Nd o->H1 b=some o:=λb o e h=>K.kp b o e (λz=>by
 obtain ⟨kvs,q⟩:=K.dd b (K.mem b z) o e;exact h.k kvs q) λz=>by
 obtain ⟨ps,q⟩:=K.tb;rw [<-z,e] at q;exact h.t ps (Sd q)
theorem bI.again (R:bI c O pas H st) (K:c8 c (dS O pas) pas H st H1):bI c O pas H1 st:=by
 obtain ⟨s,o1,o2,o3⟩:=R.obj;obtain ⟨kl,l1,l2,l3,l4⟩:=R.limits;obtain ⟨xs,a1,a2⟩:=R.acts;refine #[#[s,K.nd _ _ o1 trivial,o2.to K.nd,o3],K.nd _ _ R.lands trivial,cC.mk' R.each.length λi z x h1 h2=>?_,R.ap,R.len,#[kl,K.kp _ _ l1 R.nD (λz=>by obtain ⟨ps,q⟩:=K.tb;rw [<-z,l1] at q;cases q),l2,λn hn=>(l3 n hn).to K.nd,λk q hq=>?_],R.Df,R.nD,#[xs,K.nd _ _ a1 trivial,a2.imp λp x h=>h.to K.nd],R.Dg,R.apart,R.Bf,R.sin,R.Ke,λz hz=>#[(R.nx z hz).1,?_],K.tab,let ⟨ys,e⟩:=R.gv.1;⟨ys,K.nd _ _ e trivial⟩,R.gv.2]
 .obtain ⟨a,q1,q2,q3⟩:=K.ll i z x h1 h2;exact #[a,q1.to K.nd,q2,q3]
 .obtain ⟨f,e,h⟩:=l4 k q hq;obtain ⟨dx,t,u,e1,_⟩:=id h;exact #[f.to e1 (K.nd _ _ e1 trivial),e,h.to K.nd]
 .obtain ⟨i,hi⟩:=Tt hz;obtain ⟨x,hx,a,⟨dx,t,e,_⟩,_⟩:=R.each.get hi;exact (R.nx z hz).2.to e (K.nd _ _ e trivial)
theorem c8.same (K:c8 c M pas H st H1) (s:aj H1 H2):c8 c M pas H st H2:=
 #[λb o e n n2=>s b o (K.kp b o e n n2),λj z x h1 h2=>let ⟨a,q1,q2,q3⟩:=K.ll j z x h1 h2;⟨a,q1,q2.same s,q3⟩,K.mem,K.dd,K.tab.to (λps e=>s _ _ e) λb φ e=>s _ _ e,K.tb]
theorem c8.cached (K:c8 c M pas H st H1) (ap:pas.Pairwise Ap) {j:Nat} (h1:pas[j]? =some z) (h2:st.lands[j]? =some x) (hO:iG c H z.1 a x) (C:bz c M H2 a z.2 x.calendar) (kc:jW z.2 H1 H2):c8 c M pas H st H2:=by
 have kg:∀b o,H1 b=some o->(∀kvs,o≠.dK kvs)->H2 b=some o:=λb o e h=>by obtain ⟨_,_,q2,_⟩:=K.ll j z x h1 h2;exact kc.get q2 e h
 refine #[λb o e n n2=>kc b o (K.kp b o e n n2) (λq=>n #[z,SE h1,.inl q]) (λq=>n #[z,SE h1,.inr q]),λi z' x' g1 g2=>?_,K.mem,K.dd,K.tab.to (λps e=>kg _ _ e nofun) λb φ e=>kg _ _ e nofun,K.tb];by_cases e:i=j
 .subst e;rw [h1] at g1;rw [h2] at g2;cases g1;cases g2;obtain ⟨_,_,_,q3⟩:=K.ll i z x h1 h2;exact #[a,hO,C,q3]
 .obtain ⟨a',q1,q2,q3⟩:=K.ll i z' x' g1 g2;have hap:Ap z z':=by
   obtain ⟨i1,e1⟩:=(Sl).mp h1;obtain ⟨i2,e2⟩:=(Sl).mp g1;rcases Nat.lt_or_gt_of_ne e with h|h
   .have:=(TK).mp ap i j i2 i1 h;rw [e1,e2] at this;exact #[λq=>this.1 q.symm,λq=>this.2.2.1 q.symm,λq=>this.2.1 q.symm,λq=>this.2.2.2 q.symm]
   .have:=(TK).mp ap j i i1 i2 h;rw [e1,e2] at this;exact this
  refine #[a',q1,q2.keep (λb o e n=>kc b o e (λq=>n (K.mem b #[z,SE h1,.inl q])) (λq=>n (K.mem b #[z,SE h1,.inr q]))) (λo e=>kc _ o e (λq=>hap.1 q.symm) (λq=>hap.2.2.1 q.symm)) (λo e=>kc _ o e (λq=>hap.2.1 q.symm) (λq=>hap.2.2.2 q.symm)) (λb hb=>?_),q3];exact C.mm b hb
theorem c8.put (K:c8 c M pas H st H1) (h0:H D=none) (h:H1 D=some (.lst acc)) (hf:∀z∈pas,∃u,H z.2.f=some u):c8 c M pas H st (upd H1 D o):=
 #[λb o e n n2=>by rw [ai (ak e h0)];exact K.kp b o e n n2,λj z x h1 h2=>by obtain ⟨a,q1,q2,q3⟩:=K.ll j z x h1 h2;obtain ⟨u,hu⟩:=hf z (SE h1);exact #[a,q1,q2.other h (λe=>by rw [e,hu] at h0;cases h0),q3],K.mem,K.dd,K.tab.to (λps e=>by rw [ai (aX e h nofun)];exact e) λb φ e=>by rw [ai (aX e h nofun)];exact e,K.tb]
theorem bI.fs (R:bI c O pas H st):∀z∈pas,∃u,H z.2.f=some u:=λz hz=>by obtain ⟨i,hi⟩:=Tt hz;obtain ⟨x,hx,a,_,C,_⟩:=R.each.get hi;obtain ⟨ps,h,_⟩:=C.feasts;exact #[_,h]
theorem bI.ng (R:bI c O pas H st) (hx:H x=none):x≠O.G:=λz=>by obtain ⟨⟨ys,e⟩,_⟩:=R.gv;rw [z,e] at hx;cases hx
theorem bI.same (R:bI c O pas H st) (s:aj H H1):bI c O pas H1 st:=R.again (R.k0.same s)
theorem bI.at (R:bI c O pas H st) {n:Nat} (h:n<4):∃z x,pas[n]? =some z/\st.lands[n]? =some x/\landAt st n=x/\Bd c (dS O pas) H z x:=by
 have h1:n<pas.length:=by rw [R.Ht];exact h
 have h2:n<st.lands.length:=by rw [R.len];exact h
 refine #[pas[n],st.lands[n],Ss h1,Ss h2,?_,R.each.at (Ss h1) (Ss h2)];unfold landAt;rw [List.getD_eq_getElem?_getD,Ss h2];rfl
end
noncomputable def vR (O:OA) (H H':Hp):Prop:=∀b o,H b=some o->b≠O.o->b≠O.L->b≠O.X->Nd o->H' b=some o
theorem vR.of {O:OA} {M:KE->Prop} {pas:List (KE×CA)} {H H':Hp} {st:State} (K:c8 c M pas H st H'):vR O H H':=λb o e _ _ _ h=>K.nd b o e h
noncomputable def gm (c:Cl) (C:KE) (n:Int):Prop:=(C=c.a8/\n= -1)\/(C=c.iM/\n= -3)\/(C=c.ga/\n= -4)\/(C=c.gb/\n= -5)\/(C=c.bp/\n= -6)\/(C=c.NoLimit/\n= -8)\/(C=c.ln/\n= -9)
section
theorem fU:gm c c.a8 (-1):=.inl #[rfl,rfl]
theorem Rb:gm c c.iM (-3):=.inr (.inl #[rfl,rfl])
theorem R8:gm c c.ga (-4):=.inr (.inr (.inl #[rfl,rfl]))
theorem RL:gm c c.gb (-5):=.inr (.inr (.inr (.inl #[rfl,rfl])))
theorem RM:gm c c.bp (-6):=.inr (.inr (.inr (.inr (.inl #[rfl,rfl]))))
theorem Kf:gm c c.NoLimit (-8):=.inr (.inr (.inr (.inr (.inr (.inl #[rfl,rfl])))))
theorem Rc:gm c c.ln (-9):=.inr (.inr (.inr (.inr (.inr (.inr #[rfl,rfl])))))
end
structure Out (c:Cl) (O:OA) (pas:List (KE×CA)) (H:Hp) (st:State) (r:State×List Int) (Q:VK) (E:XK):Prop where
 ret:∀H' q pas',bI c O pas' H' r.1->vR O H H'->H' q=some (.lst (r.2.map V.int))->r.2.length<=1000->q≠O.G->Q (.ref q) H'
 err:∀C n H',gm c C n->r=(st,[n])->c8 c (dS O pas) pas H st H'->E (.ref C) none H'
section
variable {O:OA} {pas:List (KE×CA)} {H H1:Hp} {st:State} {r:State×List Int} {Q:VK} {E:XK}
theorem Out.no (h:Out c O pas H st r Q E) (R:bI c O pas H st) {n:Int} (f:gm c C n) (e:r=(st,[n])) (s:aj H H1):E (.ref C) none H1:=h.err C n H1 f e (R.k0.same s)
theorem Out.yes (h:Out c O pas H st r Q E) (R:bI c O pas H st) {l:List Int} (e:r=(st,l)) (K:c8 c (dS O pas) pas H st H1) (hq:H1 q=some (.lst (l.map V.int))) (hl:l.length<=1000) (nq:q≠O.G):Q (.ref q) H1:=by subst e;exact h.ret H1 q pas (R.again K) (.of K) hq hl nq
end
theorem w8:1<=1000:=by decide
theorem Re:2<=1000:=by decide
theorem R9:4<=1000:=by decide
noncomputable def pz (c:Cl) (F:State->List Int->State×List Int) (sh:List Int->Prop):Sp:=Av λ(O:OA) (pas:List (KE×CA)) (st:State) (p:KE) (ns:List Int) vs H Q E=>vs=[.ref O.o,.ref p]/\bI c O pas H st/\H p=some (.lst (ns.map V.int))/\sh ns/\Out c O pas H st (F st ns) Q E
theorem be {n lo hi:Int}:Sm n lo hi=true↔lo<=n/\n<=hi:=by unfold Sm;rw [S9,decide_eq_true_eq,decide_eq_true_eq]
theorem bC {n lo hi:Int} (h:¬(lo<=n/\n<=hi)):Sm n lo hi=false:=by
 cases e:Sm n lo hi with
 |false=>rfl
 |true=>exact absurd (be.mp e) h
noncomputable def Jx (ns:List Int):Prop:=∃a,ns=[a]
noncomputable def vS (ns:List Int):Prop:=∃a b,ns=[a,b]
noncomputable def Dh (ns:List Int):Prop:=∃a b d,ns=[a,b,d]
theorem aT {n:Int} (h:0<=n):∃m:Nat,n=m:=#[n.toNat,by omega]
theorem O8 (st:State) (n:Int):step st [[0,n]]=if Sm n 0 146096=false then (st,[-1]) else (st,Sz [(dateOf n.toNat).y,(dateOf n.toNat).m,(dateOf n.toNat).d,weekday n.toNat]):=rfl
theorem O9 (st:State) (y m d:Int):step st [[1,y,m,d]]=if (Sm y 2000 2399&&(Sm m 1 12&&Sm d 1 31))=false then (st,[-1]) else if isDate #[y.toNat,m.toNat,d.toNat]=false then (st,[-4]) else (st,Sz [dayOf #[y.toNat,m.toNat,d.toNat]]):=rfl
theorem O_ (st:State) (y:Int):step st [[2,y]]=if Sm y 2000 2399=false then (st,[-1]) else (st,Sz [VbptaaCore.easter y.toNat]):=rfl
theorem Mq (st:State) (n k:Int):step st [[27,n,k]]=if (Sm n 0 146096&&Sm k 0 1200)=false then (st,[-1]) else match few (addMonths n.toNat k.toNat) with
 |none=>(st,[-9])
 |some d=>(st,Sz [d]):=rfl
section
theorem pA:al ["office","numbers","day"] ["office","numbers"] (ah (top 33)):=by ext
noncomputable def yP (c:Cl):Sp:=pz c (λst ns=>step st [0::ns]) Jx
theorem yQ (T:Tx):FO (cf P w) 4 "call_date" ["office","numbers"] (yP c):=by
 refine T.zu.gX pA (by ext) λ_ _ _ _ _ H vs Q E hr h=>?_;obtain ⟨O,pas,st,p,ns,rfl,R,hp,⟨n,rfl⟩,h⟩:=h;have hp:H p=some (.lst [.int n]):=hp;replace h:Out c O pas H st (step st [[0,n]]) Q E:=h;rw [O8] at h;exists (aa (bt 2 pA.nd (bK (aZ T) hr.m (aV (cR (pv 1) ag))))
  (ac (am (az xX (ik wJ (by rfl) T.BP PyProof.Rows.boot_list (aV (fW (oj T) hr.m (aV (pv 2))))) (aQ (aV (fW (jp T) hr.m (aV (pv 2)))))))))
 rfl';refine #[n,rfl,λq=>?_,λq=>h.no R fU (by rw [bC q];rfl) (aj.refl _)];obtain ⟨m,rfl⟩:=aT q.1;rw [be.mpr q,if_neg (by decide)] at h;rfl';refine #[m,rfl,λt ht=>?_];rfl';refine #[t,_,rfl,.inr (ij.of ae),λl hl=>?_];rfl';refine #[m,rfl,?_];rfl';refine #[by show 1<=sizeLine;decide,λx hx=>?_];refine DQ (aj.upd hx _ _ ae) ae (by show 4<=sizeLine;decide) λz hz=>?_;exact h.yes R rfl (R.k0.same ((((aj.upd ht).trans (aj.upd hl)).trans (aj.upd hx)).trans (aj.upd hz))) ae R9 ((R.same (((aj.upd ht).trans (aj.upd hl)).trans (aj.upd hx))).ng hz)
theorem i7:al ["office","numbers","year","month","date"] ["office","numbers"] (ah (top 34)):=by ext
noncomputable def Bg (c:Cl):Sp:=pz c (λst ns=>step st [1::ns]) Dh
theorem Bh (T:Tx):FO (cf P w) 4 "call_day" ["office","numbers"] (Bg c):=by
 refine T.BS.gX i7 (by ext) λ_ _ _ _ _ H vs Q E hr h=>?_;obtain ⟨O,pas,st,p,ns,rfl,R,hp,⟨y,m,d,rfl⟩,h⟩:=h;have hp:H p=some (.lst [.int y,.int m,.int d]):=hp;replace h:Out c O pas H st (step st [[1,y,m,d]]) Q E:=h;rw [O9] at h;exists (aa (bt 2 i7.nd (bK (kE T) hr.m (aV (cR (pv 1) ag))))
  (aa (bt 3 i7.nd (bK (bE T) hr.m (dH (cR (pv 1) ag) ag ag)))
  (aa (bt 4 i7.nd (bK (bE T) hr.m (dH (cR (pv 1) ag) ag ag)))
  (aa (aL (aA iP (pv 4) (fW (a_ T) hr.m (cz (pv 2) (pv 3))) (aE _)) (ac (bw newX rfl rfl T.oy T.j3)) aC)
  (ac (am (aQ (aV (fW (fB T) hr.m (dH (pv 2) (pv 3) (pv 4)))))))))))
 rfl';refine #[y,rfl,λq1=>?_,λq=>h.no R fU (by rw [bC q];rfl) (aj.refl _)];rfl';refine #[m,1,12,rfl,λq2=>?_,λq=>h.no R fU (by rw [bC q,Bool.false_and,Ub];rfl) (aj.refl _)];rfl';refine #[d,1,31,rfl,λq3=>?_,λq=>h.no R fU (by rw [bC q,Ub,Ub];rfl) (aj.refl _)];rw [be.mpr q1,be.mpr q2,be.mpr q3,if_neg (by decide)] at h;obtain ⟨y,rfl⟩:=aT (by omega:0<=y);obtain ⟨m,rfl⟩:=aT (by omega:0<=m);obtain ⟨d,rfl⟩:=aT (by omega:0<=d);simp only [So] at h;have hd:isDate ⟨y,m,d⟩=decide (d<=monthDays y m):=by unfold isDate;rw [decide_eq_true (by show 2000<=y/\1<=m/\m<=12/\1<=d;omega),Bool.true_and]
 rfl';refine #[y,m,rfl,by omega,by omega,?_];rfl';by_cases z:((monthDays y m:Nat):Int)<d
 .rw [if_pos z];rfl';exact h.no R R8 (by rw [hd,decide_eq_false (by omega)];rfl) (aj.refl _)
 .rw [if_neg z];rfl';refine #[y,m,d,rfl,by omega,by omega,by omega,by omega,?_];rfl';refine #[by show 1<=sizeLine;decide,λx hx=>?_];exact h.yes R (l:=Sz [dayOf #[y,m,d]]) (by rw [hd,decide_eq_true (by omega)];rfl) (R.k0.same (aj.upd hx)) ae w8 (R.ng hx)
theorem uq:al ["office","numbers"] ["office","numbers"] (ah (top 35)):=by ext
noncomputable def ur (c:Cl):Sp:=pz c (λst ns=>step st [2::ns]) Jx
theorem uu (T:Tx):FO (cf P w) 5 "call_easter" ["office","numbers"] (ur c):=by refine T.u7.gX uq (by ext) λ_ _ _ _ _ H vs Q E hr h=>?_;obtain ⟨O,pas,st,p,ns,rfl,R,hp,⟨n,rfl⟩,h⟩:=h;have hp:H p=some (.lst [.int n]):=hp;replace h:Out c O pas H st (step st [[2,n]]) Q E:=h;rw [O_] at h;exists (ac (am (aQ (aV (fW (lV T) hr.m (aV (bK (kE T) hr.m (aV (cR (pv 1) ag)))))))));rfl';refine #[n,rfl,λq=>?_,λq=>h.no R fU (by rw [bC q];rfl) (aj.refl _)];obtain ⟨m,rfl⟩:=aT (by omega:0<=n);rw [be.mpr q,if_neg (by decide)] at h;rfl';refine #[m,rfl,by omega,by omega,?_];rfl';refine #[by show 1<=sizeLine;decide,λx hx=>?_];exact h.yes R rfl (R.k0.same (aj.upd hx)) ae w8 (R.ng hx)
theorem ma:al ["office","numbers","day"] ["office","numbers"] (ah (top 36)):=by ext
noncomputable def uv (c:Cl):Sp:=pz c (λst ns=>step st [27::ns]) vS
theorem uw (T:Tx):FO (cf P w) 5 "call_months" ["office","numbers"] (uv c):=by
 refine T.u9.gX ma (by ext) λ_ _ _ _ _ H vs Q E hr h=>?_;obtain ⟨O,pas,st,p,ns,rfl,R,hp,⟨n,k,rfl⟩,h⟩:=h;have hp:H p=some (.lst [.int n,.int k]):=hp;replace h:Out c O pas H st (step st [[27,n,k]]) Q E:=h;rw [Mq] at h;exists (aa (bt 2 ma.nd (bK (aZ T) hr.m (aV (cR (pv 1) ag))))
  (ac (am (aQ (aV (bK (lW T) hr.m (aV (fW (k_ T) hr.m (cz (pv 2) (bK (bE T) hr.m (dH (cR (pv 1) ag) ag (gI 1200 T.u5 rfl))))))))))))
 rfl';refine #[n,rfl,λq1=>?_,λq=>h.no R fU (by rw [bC q];rfl) (aj.refl _)];rfl';refine #[k,0,1200,rfl,λq2=>?_,λq=>h.no R fU (by rw [bC q,Ub];rfl) (aj.refl _)];rw [be.mpr q1,be.mpr q2,if_neg (by decide)] at h;obtain ⟨n,rfl⟩:=aT q1.1;obtain ⟨k,rfl⟩:=aT q2.1;simp only [So] at h;rfl';refine #[n,k,rfl,λt ht=>?_];rfl';refine #[addMonths n k,rfl,λz=>?_,λz=>h.no R Rc ?_ (aj.upd ht)]
 .rfl';refine #[by show 1<=sizeLine;decide,λx hx=>?_];refine h.yes R (l:=Sz [addMonths n k]) ?_ (R.k0.same ((aj.upd ht).trans (aj.upd hx))) ae w8 ((R.same (aj.upd ht)).ng hx);rw [show few (addMonths n k)=some (addMonths n k) from if_pos z]
 .rw [show few (addMonths n k)=none from if_neg (by omega)]
end
section
theorem qH:al ["self","ahead","post","text","calendar"] ["self","ahead","post","text","calendar"] (ah (inClass (top 80) 0)):=by ext
noncomputable def Jy (c:Cl):Sp:=J9 λ(p dx:KE) (va vb vc vd:V) vs H Q _=>vs=[.ref p,va,vb,vc,vd]/\H p=some (.ins c.Land dx [])/\Q .bZ (upd H p (.ins c.Land dx [("ahead",va),("post",vb),("text",vc),("calendar",vd)]))
theorem D9 (T:Tx):KO d8 1 c.Land "Land" ["self","ahead","post","text","calendar"] (Jy c):=by
 refine T.Kp.g T.HV qH (by ext) λ_ _ _ _ _ H vs Q E hr h=>?_;obtain ⟨p,dx,va,vb,vc,vd,rfl,hp,k⟩:=h;exists (aa (a9 (pv 0) (pv 1) rfl)
  (aa (a9 (pv 0) (pv 2) rfl)
  (aa (a9 (pv 0) (pv 3) rfl)
  (ac (a9 (pv 0) (pv 4) rfl)))))
 rfl';refine #[p,_,_,_,rfl,hp,T.cn,T.gn,(by show 0<1000;decide),?_];rfl';refine #[p,_,_,_,rfl,ae,T.cn,T.j6,(by show 1<1000;decide),?_];rw [bX];rfl';refine #[p,_,_,_,rfl,ae,T.cn,T.oE,(by show 2<1000;decide),?_];rw [bX];rfl';refine #[p,_,_,_,rfl,ae,T.cn,T.bi,(by show 3<1000;decide),?_];rw [bX];exact k
theorem pB:al ["self","text","steps"] ["self","text","steps"] (ah (inClass (top 81) 0)):=by ext
noncomputable def Hu (c:Cl):Sp:=Au λ(p dx:KE) (va vb:V) vs H Q _=>vs=[.ref p,va,vb]/\H p=some (.ins c.Limit dx [])/\Q .bZ (upd H p (.ins c.Limit dx [("text",va),("steps",vb)]))
theorem Hv (T:Tx):KO d8 1 c.Limit "Limit" ["self","text","steps"] (Hu c):=by
 refine T.HW.g T.FA pB (by ext) λ_ _ _ _ _ H vs Q E hr h=>?_;obtain ⟨p,dx,va,vb,rfl,hp,k⟩:=h;exists (aa (a9 (pv 0) (pv 1) rfl)
  (ac (a9 (pv 0) (pv 2) rfl)))
 rfl';refine #[p,_,_,_,rfl,hp,T.oF,T.na,(by show 0<1000;decide),?_];rfl';refine #[p,_,_,_,rfl,ae,T.oF,T.lu,(by show 1<1000;decide),?_];rw [bX];exact k
theorem sf:al ["self","kind","place","minute"] ["self","kind","place","minute"] (ah (inClass (top 82) 0)):=by ext
noncomputable def Mr (c:Cl):Sp:=Av λ(p dx:KE) (va vb vc:V) vs H Q _=>vs=[.ref p,va,vb,vc]/\H p=some (.ins c.Act dx [])/\Q .bZ (upd H p (.ins c.Act dx [("kind",va),("place",vb),("minute",vc)]))
theorem Ms (T:Tx):KO d8 1 c.Act "Act" ["self","kind","place","minute"] (Mr c):=by
 refine T.Nc.g T.Kq sf (by ext) λ_ _ _ _ _ H vs Q E hr h=>?_;obtain ⟨p,dx,va,vb,vc,rfl,hp,k⟩:=h;exists (aa (a9 (pv 0) (pv 1) rfl)
  (aa (a9 (pv 0) (pv 2) rfl)
  (ac (a9 (pv 0) (pv 3) rfl))))
 rfl';refine #[p,_,_,_,rfl,hp,T.gO,T.lv,(by show 0<1000;decide),?_];rfl';refine #[p,_,_,_,rfl,ae,T.gO,T.fJ,(by show 1<1000;decide),?_];rw [bX];rfl';refine #[p,_,_,_,rfl,ae,T.gO,T.gp,(by show 2<1000;decide),?_];rw [bX];exact k
theorem yR:al ["office","number"] ["office","number"] (ah (top 90)):=by ext
noncomputable def yS (c:Cl):Sp:=Au λ(O:OA) (pas:List (KE×CA)) (st:State) (n:Int) vs H Q E=>vs=[.ref O.o,.int n]/\bI c O pas H st/\(∀(j:Nat) z,n=j->j<4->pas[j]? =some z->Q (.ref z.1) H)/\(¬(0<=n/\n<=3)->E (.ref c.a8) none H)
theorem bP (T:Tx):FO (cf P w) 2 "told_land" ["office","number"] (yS c):=by refine T.zH.gX yR (by ext) λ_ _ _ _ s H vs Q E hr h=>?_;obtain ⟨O,pas,st,n,rfl,R,k1,k2⟩:=h;exists (ac (am (cR (aq (pv 0) rfl) (bK (bE T) hr.m (dH (pv 1) ag (gI 3 T.gA rfl))))));obtain ⟨s,ho,_⟩:=R.obj;rfl';refine ay ho T.aN T.cT rfl ?_;rfl';refine #[n,0,3,rfl,λq=>?_,k2];obtain ⟨j,rfl⟩:=aT q.1;obtain ⟨z,x,h1,_⟩:=R.at (n:=j) (by omega);refine oW (cB.of R.lands) (v:=.ref z.1) (mF (by omega) ?_) (k1 j z rfl (by omega) h1);rw [So,SO,h1];rfl
theorem kN:al ["codes","longest","code"] ["codes","longest"] (ah (top 91)):=by ext
noncomputable def yT (c:Cl):Sp:=Fu λ(p:KE) (ns:List Int) (m:Nat) vs H Q E=>vs=[.ref p,.int m]/\H p=some (.lst (ns.map V.int))/\m<=800/\(isText m ns=true->∀H' q,aj H H'->H q=none->H' q=some (.lst ((bytes ns).map nI))->(bytes ns).length<=m->Q (.ref q) H')/\(isText m ns=false->∀H',aj H H'->E (.ref c.a8) none H')
theorem Bi:∀ns:List Int,(∀x∈ns,0<=x/\x<=255)->(bytes ns).map nI=ns.map V.int
 |[],_=>rfl
 |x::l,h=>by have ih:=Bi l λy hy=>h y (Sh _ hy);show V.int ((x.toNat:Nat):Int)::(bytes l).map nI= .int x::l.map V.int;rw [ih,show ((x.toNat:Nat):Int)=x from by have:=h x Sk;omega]
theorem Hw {m:Nat} {ns:List Int} {x:Int} (hx:x∈ns) (h:¬(0<=x/\x<=255)):isText m ns=false:=by
 cases e:isText m ns with
 |false=>rfl
 |true=>unfold isText at e;rw [S9,Th] at e;exact absurd (be.mp (e.2 x hx)) h
theorem pC (T:Tx):FO (cf P w) 2 "told_text" ["codes","longest"] (yT c):=by
 refine T.zI.gX kN (by ext) λ_ _ _ _ _ H vs Q E hr h=>?_;obtain ⟨p,ns,m,rfl,hp,hm,k1,k2⟩:=h;exists (aa (bA (bK (bE T) hr.m (dH (aJ cu (by rfl) T.eQ S0 (aV (pv 0))) ag (pv 1))))
  (ac (am (yb (E:=E) DL rfl rfl rfl rfl kN.nd (cb (pv 0)) (own:=[("code",2)]) (ok:=(#[rfl,by decide+kernel,by decide+kernel,by decide+kernel,by decide+kernel]:ni ["codes","longest","code"] (ah (top 91)) _ [("code",2)])) (λ_ _ _ _ _ _=>bg (i:=2) kN.nd rfl (Tk rfl)) (λ_ _ _ _ _ _=>oO) (λ_ _ _ _ _ _ hpB=>(tH (bE T) hr.m rfl (E:=E) hpB (dH (pv 2) ag ag)))))))
 rfl';rw [w4];refine #[(ns.length:Nat),0,m,rfl,λq=>?_,λq=>k2 ?_ _ (aj.refl _)]
 .rfl';intro D hD;refine pk (xs:=ns.map V.int) (λi H'=>aj H H'/\H' D=some (.lst ((ns.take i).map V.int))/\∀x∈ns.take i,0<=x/\x<=255) #[aj.upd hD,ae,(by simp)] (λi H' _ h=>cB.of (h.1 _ _ hp)) ?_ ?_
  .rintro i y H' hy ⟨s1,hD1,hin⟩;obtain ⟨n,hn,rfl⟩:=ee hy;have hi:i<ns.length:=((Sl).mp hn).1;rfl';refine #[rfl,?_];rfl';refine #[n,0,255,rfl,λz=>?_,λz=>k2 (Hw (fv hn) z) _ s1];refine #[_,hD1,aI (by rw [w4,S8];omega),λb o e=>?_,?_,λx hx=>?_]
   .rw [ai (ak e hD)];exact s1 b o e
   .rw [ae,take_snoc hn,Sw];rfl
   .rw [take_snoc hn] at hx;rcases (SU).mp hx with hx|hx
    .exact hin x hx
    .rw [(SB).mp hx];exact z
  .rintro H' ⟨s1,hD1,hin⟩;rw [w4,SX] at hD1 hin;refine k1 ?_ _ D s1 hD (by rw [Bi ns hin];exact hD1) (by show (ns.map Int.toNat).length<=m;rw [w4];omega);unfold isText;rw [S9,Th];exact #[decide_eq_true (by omega),λx hx=>be.mpr (hin x hx)]
 .unfold isText;rw [decide_eq_false (by omega)];rfl
end
theorem Pa (st:State) (a h p:Int) (t:List Int):step st [[3,a,h,p],t]=if (Sm a 0 3&&(Sm h (-720) 840&&(Sm p 0 30&&isText 800 t)))=false then (st,[-1]) else match calendarOf (bytes t) with
 |none=>(st,[-6])
 |some k=>({st with lands:=st.lands.set a.toNat #[k,h,p.toNat]},Sz [k.length]):=rfl
theorem Pb (st:State) (a:Int):step st [[4,a]]=if Sm a 0 3=false then (st,[-1]) else (st,((landAt st a.toNat).ahead+720)::((landAt st a.toNat).post:Int)::Sz (shownCalendar (landAt st a.toNat).calendar)):=rfl
theorem Pc (st:State) (a n:Int):step st [[5,a,n]]=if (Sm a 0 3&&Sm n 0 146096)=false then (st,[-1]) else (st,[if VbptaaCore.closed (landAt st a.toNat).calendar n.toNat=true then 1 else 0]):=rfl
theorem Pd (st:State) (a n:Int):step st [[6,a,n]]=if (Sm a 0 3&&Sm n 0 146096)=false then (st,[-1]) else (st,Sz [nextOpen (landAt st a.toNat).calendar n.toNat]):=rfl
theorem Pe (st:State) (a n:Int):step st [[7,a,n]]=if (Sm a 0 3&&Sm n 0 146096)=false then (st,[-1]) else match lastOpen (landAt st a.toNat).calendar n.toNat with
 |none=>(st,[-5])
 |some d=>(st,Sz [d]):=rfl
theorem Pf (st:State) (a n m:Int):step st [[8,a,n,m]]=if (Sm a 0 3&&(Sm n 0 146096&&(Sm m 0 146096&&(decide (n<=m)&&decide (m<=n+400)))))=false then (st,[-1]) else (st,Sz [((SR (m - n+1).toNat).filter λi=>!VbptaaCore.closed (landAt st a.toNat).calendar (n.toNat+i)).length]):=rfl
theorem Pg (st:State) (a n k:Int):step st [[9,a,n,k]]=if (Sm a 0 3&&(Sm n 0 146096&&Sm k 1 60))=false then (st,[-1]) else (st,Sz [kthOpen (landAt st a.toNat).calendar k.toNat n.toNat]):=rfl
theorem Mt (st:State) (a y:Int):step st [[10,a,y]]=if (Sm a 0 3&&Sm y 2000 2399)=false then (st,[-1]) else (st,Sz ((Tv (landAt st a.toNat).calendar y.toNat).length::(Tv (landAt st a.toNat).calendar y.toNat).flatMap λx=>[x.1,x.2])):=rfl
theorem dO {b:Bool} {n lo hi:Int} (h:¬(lo<=n/\n<=hi)):(Sm n lo hi&&b)=false:=by rw [bC h,Bool.false_and]
theorem bW {a b:Bool} (h:b=false):(a&&b)=false:=by rw [h,Ub]
theorem wt {b:Bool} {n lo hi:Int} (h:lo<=n/\n<=hi) (g:b=true):(Sm n lo hi&&b)=true:=by rw [be.mpr h,g];rfl
theorem ux {p q:Prop} [Decidable p] [Decidable q]:(decide p&&decide q)=true↔p/\q:=by rw [S9,decide_eq_true_eq,decide_eq_true_eq]
theorem Jz {p q:Prop} [Decidable p] [Decidable q] (h:¬(p/\q)):(decide p&&decide q)=false:=by
 cases e:(decide p&&decide q) with
 |false=>rfl
 |true=>exact absurd (ux.mp e) h
theorem bo {st:State} {b:Bool} {r:State×List Int} (h:b=false):(if b=false then (st,[-1]) else r)=(st,[(-1:Int)]):=if_pos h
theorem cy {st:State} {b:Bool} {r:State×List Int} (h:b=true):(if b=false then (st,[(-1:Int)]) else r)=r:=if_neg (by rw [h];simp)
section
theorem bI.ll {O:OA} {pas:List (KE×CA)} {H:Hp} {st:State} (R:bI c O pas H st) {j:Nat} {z:KE×CA} (hj:j<4) (h:pas[j]? =some z):∃a,iG c H z.1 a (landAt st j)/\bz c (dS O pas) H a z.2 (landAt st j).calendar/\yO (landAt st j)/\
 ∀H',bz c (dS O pas) H' a z.2 (landAt st j).calendar->jW z.2 H H'->c8 c (dS O pas) pas H st H':=by
 obtain ⟨z',x,h1,h2,h3,a,h4,h5,h6⟩:=R.at hj;rw [h] at h1;cases h1;rw [h3];exact #[a,h4,h5,h6,λH' C k=>R.k0.cached R.ap h h2 h4 C k]
theorem jX:al ["office","numbers","land"] ["office","numbers"] (ah (top 93)):=by ext
noncomputable def qI (c:Cl):Sp:=pz c (λst ns=>step st [4::ns]) Jx
theorem qJ (T:Tx):FO (cf P w) 3 "call_landtext" ["office","numbers"] (qI c):=by
 refine T.rD.gX jX (by ext) λ_ _ _ _ _ H vs Q E hr h=>?_;obtain ⟨O,pas,st,p,ns,rfl,R,hp,⟨a,rfl⟩,h⟩:=h;have hp:H p=some (.lst [.int a]):=hp;replace h:Out c O pas H st (step st [[4,a]]) Q E:=h;rw [Pb] at h;exists (aa (bt 2 jX.nd (bK (bP T) hr.m (cz (pv 0) (cR (pv 1) ag))))
  (ac (am (az xX (aQ (cz (az aP (aq (pv 2) rfl) (gI 720 T.qT rfl)) (aq (pv 2) rfl))) (aq (pv 2) rfl)))))
 rfl';refine #[O,pas,st,a,rfl,R,λj z ej hj hz=>?_,λq=>h.no R fU (bo (bC q)) (aj.refl _)];subst ej;rw [cy (be.mpr (by omega))] at h;obtain ⟨ca,⟨dx,t,hl,ht⟩,C,ok,_⟩:=R.ll hj hz;rw [So] at h;rfl';refine ay hl T.cn T.gn rfl ?_;rfl';refine ay hl T.cn T.j6 rfl ?_;rfl';refine #[by show 2<=sizeLine;decide,λx hx=>?_];rfl';refine ay (aj.upd hx _ _ hl) T.cn T.oE rfl ?_;have hlen:=ok.2.2.2;refine DQ ae (aj.upd hx _ _ ht) (by rw [w4];show 2+_<=_;exact T6 (aI (by omega))) λy hy=>?_;refine h.yes R rfl (R.k0.same ((aj.upd hx).trans (aj.upd hy))) ?_ ?_ ((R.same (aj.upd hx)).ng hy)
 .rw [ae];show _=some (HO.lst (V.int _::V.int _::(Sz _).map V.int));unfold Sz;rw [T2];rfl
 .simp only [Si,Sz,w4];omega
theorem iH:al ["office","numbers","land","day"] ["office","numbers"] (ah (top 94)):=by ext
noncomputable def uz (c:Cl):Sp:=pz c (λst ns=>step st [5::ns]) vS
theorem uA (T:Tx):FO (cf P w) 12 "call_closed" ["office","numbers"] (uz c):=by
 refine T.vh.gX iH (by ext) λ_ _ _ _ _ H vs Q E hr h=>?_;obtain ⟨O,pas,st,p,ns,rfl,R,hp,⟨a,n,rfl⟩,h⟩:=h;have hp:H p=some (.lst [.int a,.int n]):=hp;replace h:Out c O pas H st (step st [[5,a,n]]) Q E:=h;rw [Pc] at h;exists (aa (bt 2 iH.nd (bK (bP T) hr.m (cz (pv 0) (cR (pv 1) ag))))
  (aa (bt 3 iH.nd (bK (aZ T) hr.m (aV (cR (pv 1) ag))))
  (ac (am (aQ (aV (oH (c9 (bJ (aq (pv 2) rfl) (cP T) hr.m bq (aV (pv 3)))) ag ag)))))))
 rfl';refine #[O,pas,st,a,rfl,R,λj z ej hj hz=>?_,λq=>h.no R fU (bo (dO q)) (aj.refl _)];rfl';refine #[n,rfl,λq=>?_,λq=>h.no R fU (bo (bW (bC q))) (aj.refl _)];rw [cy (wt (by omega) (be.mpr q))] at h;subst ej;obtain ⟨n,rfl⟩:=aT q.1;obtain ⟨ca,⟨dx,t,hl,ht⟩,C,ok,fin⟩:=R.ll hj hz;rw [So,So] at h;rfl';refine ay hl T.cn T.bi rfl ?_;rfl';refine br C.obj rfl ?_;rfl';refine #[dS O pas,ca,z.2,_,n,rfl,C,by omega,λH1 C1 k1=>?_];have K1:=fin H1 C1 k1.Mo;rfl';cases hc:closed (landAt st j).calendar n with
 |true=>rfl';refine #[by show 1<=sizeLine;decide,λx hx=>?_];exact h.yes R (l:=[1]) (by rw [hc];rfl) (K1.same (aj.upd hx)) ae w8 ((R.again K1).ng hx)
 |false=>rfl';refine #[by show 1<=sizeLine;decide,λx hx=>?_];exact h.yes R (l:=[0]) (by rw [hc];rfl) (K1.same (aj.upd hx)) ae w8 ((R.again K1).ng hx)
theorem pD:al ["office","numbers","land"] ["office","numbers"] (ah (top 95)):=by ext
noncomputable def yU (c:Cl):Sp:=pz c (λst ns=>step st [6::ns]) vS
theorem yV (T:Tx):FO (cf P w) 12 "call_next" ["office","numbers"] (yU c):=by
 refine T.zK.gX pD (by ext) λ_ _ _ _ _ H vs Q E hr h=>?_;obtain ⟨O,pas,st,p,ns,rfl,R,hp,⟨a,n,rfl⟩,h⟩:=h;have hp:H p=some (.lst [.int a,.int n]):=hp;replace h:Out c O pas H st (step st [[6,a,n]]) Q E:=h;rw [Pd] at h;exists (aa (bt 2 pD.nd (bK (bP T) hr.m (cz (pv 0) (cR (pv 1) ag))))
  (ac (am (aQ (aV (bJ (aq (pv 2) rfl) (cM T) hr.m bq (aV (bK (aZ T) hr.m (aV (cR (pv 1) ag))))))))))
 rfl';refine #[O,pas,st,a,rfl,R,λj z ej hj hz=>?_,λq=>h.no R fU (bo (dO q)) (aj.refl _)];subst ej;obtain ⟨ca,⟨dx,t,hl,ht⟩,C,ok,fin⟩:=R.ll hj hz;rfl';refine ay hl T.cn T.bi rfl ?_;rfl';refine br C.obj rfl ?_;rfl';refine #[n,rfl,λq=>?_,λq=>h.no R fU (bo (bW (bC q))) (aj.refl _)];rw [cy (wt (by omega) (be.mpr q))] at h;obtain ⟨n,rfl⟩:=aT q.1;rw [So,So] at h;rfl';refine #[dS O pas,ca,z.2,_,n,rfl,C,by omega,λH1 C1 k1=>?_];have K1:=fin H1 C1 k1;rfl';refine #[by show 1<=sizeLine;decide,λx hx=>?_];exact h.yes R rfl (K1.same (aj.upd hx)) ae w8 ((R.again K1).ng hx)
theorem kO:al ["office","numbers","land","found"] ["office","numbers"] (ah (top 96)):=by ext
noncomputable def yW (c:Cl):Sp:=pz c (λst ns=>step st [7::ns]) vS
theorem yX (T:Tx):FO (cf P w) 12 "call_last" ["office","numbers"] (yW c):=by
 refine T.zL.gX kO (by ext) λ_ _ _ _ _ H vs Q E hr h=>?_;obtain ⟨O,pas,st,p,ns,rfl,R,hp,⟨a,n,rfl⟩,h⟩:=h;have hp:H p=some (.lst [.int a,.int n]):=hp;replace h:Out c O pas H st (step st [[7,a,n]]) Q E:=h;rw [Pe] at h;exists (aa (bt 2 kO.nd (bK (bP T) hr.m (cz (pv 0) (cR (pv 1) ag))))
  (aa (bt 3 kO.nd (bJ (aq (pv 2) rfl) (eU T) hr.m bq (aV (bK (aZ T) hr.m (aV (cR (pv 1) ag))))))
  (aa (aL (aA qt (pv 3) dv (aE _)) (ac (bw newX rfl rfl T.j5 T.hZ)) aC)
  (ac (am (aQ (aV (pv 3))))))))
 rfl';refine #[O,pas,st,a,rfl,R,λj z ej hj hz=>?_,λq=>h.no R fU (bo (dO q)) (aj.refl _)];subst ej;obtain ⟨ca,⟨dx,t,hl,ht⟩,C,ok,fin⟩:=R.ll hj hz;rfl';refine ay hl T.cn T.bi rfl ?_;rfl';refine br C.obj rfl ?_;rfl';refine #[n,rfl,λq=>?_,λq=>h.no R fU (bo (bW (bC q))) (aj.refl _)];rw [cy (wt (by omega) (be.mpr q))] at h;obtain ⟨n,rfl⟩:=aT q.1;rw [So,So] at h;rfl';refine #[dS O pas,ca,z.2,_,n,rfl,C,by omega,λH1 C1 k1=>?_];have K1:=fin H1 C1 k1;cases hc:lastOpen (landAt st j).calendar n with
 |none=>rw [hc] at h;show kZ _ .bZ _ _ _;rfl';exact h.err _ _ _ RL rfl K1
 |some d=>rw [hc] at h;show kZ _ (.int (d:Nat)) _ _ _;rfl';refine #[by show 1<=sizeLine;decide,λx hx=>?_];exact h.yes R rfl (K1.same (aj.upd hx)) ae w8 ((R.again K1).ng hx)
end
noncomputable def vH (l:List (Nat×Nat)):List Int:=Sz (l.flatMap λx=>[x.1,x.2])
theorem Bj (l:List (Nat×Nat)) (x:Nat×Nat):vH (l++[x])=vH l++[(x.1:Int),(x.2:Int)]:=by unfold vH Sz;rw [List.flatMap_append,Sw];rfl
theorem pE:∀l:List (Nat×Nat),(vH l).length=2*l.length
 |[]=>rfl
 |x::l=>by have ih:=pE l;unfold vH Sz at ih ⊢;rw [List.flatMap_cons,Sw,Sq,ih,Si];simp;omega
section
theorem gw:al ["office","numbers","land","first","last"] ["office","numbers"] (ah (top 97)):=by ext
noncomputable def vT (c:Cl):Sp:=pz c (λst ns=>step st [8::ns]) Dh
theorem vU (T:Tx):FO (cf P w) 12 "call_opens" ["office","numbers"] (vT c):=by
 refine T.xq.gX gw (by ext) λ_ _ _ _ _ H vs Q E hr h=>?_;obtain ⟨O,pas,st,p,ns,rfl,R,hp,⟨a,n,m,rfl⟩,h⟩:=h;have hp:H p=some (.lst [.int a,.int n,.int m]):=hp;replace h:Out c O pas H st (step st [[8,a,n,m]]) Q E:=h;rw [Pf] at h;exists (aa (bt 2 gw.nd (bK (bP T) hr.m (cz (pv 0) (cR (pv 1) ag))))
  (aa (bt 3 gw.nd (bK (aZ T) hr.m (aV (cR (pv 1) ag))))
  (aa (bt 4 gw.nd (bK (cJ T) hr.m (dH (cR (pv 1) ag) (pv 3) ag)))
  (ac (am (aQ (aV (bJ (aq (pv 2) rfl) (ii T) hr.m bq (cz (pv 3) (pv 4))))))))))
 rfl';refine #[O,pas,st,a,rfl,R,λj z ej hj hz=>?_,λq=>h.no R fU (bo (dO q)) (aj.refl _)];subst ej;obtain ⟨ca,⟨dx,t,hl,ht⟩,C,ok,fin⟩:=R.ll hj hz;rfl';refine #[n,rfl,λq1=>?_,λq=>h.no R fU (bo (bW (dO q))) (aj.refl _)];rfl';refine #[m,n,400,rfl,λq2=>?_,λq=>h.no R fU (bo (bW (bW ?_))) (aj.refl _)]
 .rw [cy (wt (by omega) (wt q1 (wt (by omega) (ux.mpr (by omega)))))] at h;obtain ⟨n,rfl⟩:=aT q1.1;obtain ⟨m,rfl⟩:=aT q2.1;rw [So,So,show ((m:Int)- n+1).toNat=m+1 - n by omega] at h;rfl';refine ay hl T.cn T.bi rfl ?_;rfl';refine br C.obj rfl ?_;rfl';refine #[dS O pas,ca,z.2,_,n,m,rfl,C,by omega,by omega,by omega,λH1 C1 k1=>?_];have K1:=fin H1 C1 k1;rfl';refine #[by show 1<=sizeLine;decide,λx hx=>?_];exact h.yes R rfl (K1.same (aj.upd hx)) ae w8 ((R.again K1).ng hx)
 .by_cases z:0<=m/\m<=146096
  .exact bW (Jz (by omega))
  .exact dO z
theorem me:al ["office","numbers","land","day"] ["office","numbers"] (ah (top 98)):=by ext
noncomputable def Bk (c:Cl):Sp:=pz c (λst ns=>step st [9::ns]) Dh
theorem Bl (T:Tx):FO (cf P w) 13 "call_kth" ["office","numbers"] (Bk c):=by
 refine T.B2.gX me (by ext) λ_ _ _ _ _ H vs Q E hr h=>?_;obtain ⟨O,pas,st,p,ns,rfl,R,hp,⟨a,n,m,rfl⟩,h⟩:=h;have hp:H p=some (.lst [.int a,.int n,.int m]):=hp;replace h:Out c O pas H st (step st [[9,a,n,m]]) Q E:=h;rw [Pg] at h;exists (aa (bt 2 me.nd (bK (bP T) hr.m (cz (pv 0) (cR (pv 1) ag))))
  (aa (bt 3 me.nd (bK (aZ T) hr.m (aV (cR (pv 1) ag))))
  (ac (am (aQ (aV (bJ (aq (pv 2) rfl) (e_ T) hr.m bq (cz (pv 3) (bK (bE T) hr.m (dH (cR (pv 1) ag) ag ag))))))))))
 rfl';refine #[O,pas,st,a,rfl,R,λj z ej hj hz=>?_,λq=>h.no R fU (bo (dO q)) (aj.refl _)];subst ej;obtain ⟨ca,⟨dx,t,hl,ht⟩,C,ok,fin⟩:=R.ll hj hz;rfl';refine #[n,rfl,λq1=>?_,λq=>h.no R fU (bo (bW (dO q))) (aj.refl _)];rfl';refine ay hl T.cn T.bi rfl ?_;rfl';refine br C.obj rfl ?_;rfl';refine #[m,1,60,rfl,λq2=>?_,λq=>h.no R fU (bo (bW (bW (bC q)))) (aj.refl _)];rw [cy (wt (by omega) (wt q1 (be.mpr q2)))] at h;obtain ⟨n,rfl⟩:=aT q1.1;obtain ⟨m,rfl⟩:=aT (by omega:0<=m);rw [So,So,So] at h;rfl';refine #[dS O pas,ca,z.2,_,n,m,rfl,C,by omega,by omega,λH1 C1 k1=>?_];have K1:=fin H1 C1 k1;rfl';refine #[by show 1<=sizeLine;decide,λx hx=>?_];exact h.yes R rfl (K1.same (aj.upd hx)) ae w8 ((R.again K1).ng hx)
theorem eA:al ["office","numbers","land","pairs","answer","pair"] ["office","numbers"] (ah (top 99)):=by ext
noncomputable def uB (c:Cl):Sp:=pz c (λst ns=>step st [10::ns]) vS
theorem uC (T:Tx):FO (cf P w) 9 "call_feasts" ["office","numbers"] (uB c):=by
 refine T.vi.gX eA (by ext) λ_ _ _ _ _ H vs Q E hr h=>?_;obtain ⟨O,pas,st,p,ns,rfl,R,hp,⟨a,n,rfl⟩,h⟩:=h;have hp:H p=some (.lst [.int a,.int n]):=hp;replace h:Out c O pas H st (step st [[10,a,n]]) Q E:=h;rw [Mt] at h;exists (aa (bt 2 eA.nd (bK (bP T) hr.m (cz (pv 0) (cR (pv 1) ag))))
  (aa (bt 3 eA.nd (bJ (aq (pv 2) rfl) (fQ T) hr.m bq (aV (bK (kE T) hr.m (aV (cR (pv 1) ag))))))
  (aa (bt 4 eA.nd (aQ (aV (aJ cu (by rfl) T.eQ S0 (aV (pv 3))))))
  (aa (cp Ta rfl (cb (pv 3)) (bg (i:=5) eA.nd rfl (by first|exact Tk rfl|exact Tp rfl)) (ac (bA (dG Sr T5 UG tJ (pv 4) (aV (pv 5))))))
  (ac (am (pv 4)))))))
 rfl';refine #[O,pas,st,a,rfl,R,λj z ej hj hz=>?_,λq=>h.no R fU (bo (dO q)) (aj.refl _)];subst ej;obtain ⟨ca,⟨dx,t,hl,ht⟩,C,ok,fin⟩:=R.ll hj hz;rfl';refine ay hl T.cn T.bi rfl ?_;rfl';refine br C.obj rfl ?_;rfl';refine #[n,rfl,λq=>?_,λq=>h.no R fU (bo (bW (bC q))) (aj.refl _)];rw [cy (wt (by omega) (be.mpr q))] at h;obtain ⟨n,rfl⟩:=aT (by omega:0<=n);rw [So,So] at h;rfl';refine #[dS O pas,ca,z.2,_,n,rfl,C,by omega,by omega,λH1 q1 s1 hq=>?_];have hfl:(Tv (landAt st j).calendar n).length<=20:=by have h1:=fm (landAt st j).calendar n;have h2:=o6 (landAt st j).calendar;have h3:=C.ok.len;omega
 generalize Tv (landAt st j).calendar n=fs at hq hfl h;obtain ⟨ps,hq1,hq2⟩:=hq;rfl';rw [w4,hq2.length];refine #[by show 1<=sizeLine;decide,λx hx=>?_];have hq3:upd H1 x (.lst [.int (fs.length:Nat)]) q1=some (.lst (ps.map V.ref)):=aj.upd hx _ _ hq1;rfl';refine bR (xs:=ps.map V.ref) (λi σ' H'=>aj H1 H'/\H' x=some (.lst (V.int (fs.length:Nat)::(vH (fs.take i)).map V.int))/\∃v,σ'=[some (.ref O.o),some (.ref p),some (.ref z.1),some (.ref q1),some (.ref x),v]) #[aj.upd hx,ae,_,rfl] (λi σ' H' _ h=>cB.of (h.1 _ _ hq1)) ?_ ?_
 .rintro i y σ' H' hy ⟨s2,hx2,v,rfl⟩;obtain ⟨u,hu,rfl⟩:=fg hy;obtain ⟨w,hw,hR⟩:=hq2.get hu;have hlt:i<fs.length:=((Sl).mp hw).1;rfl';refine wK hx2 (s2 _ _ hR) ?_ ?_
  .rw [Si,w4,pE,S8];exact T6 (aI (by show _+2<=_;omega))
  .refine #[λb o e=>?_,?_,_,rfl]
   .rw [ai (ak e hx)];exact s2 b o e
   .rw [ae,take_snoc hw,Bj,Sw];rfl
 .rintro σ' H' ⟨s2,hx2,v,rfl⟩;rw [w4,hq2.length,SX] at hx2;rfl';refine h.yes R rfl (R.k0.same (s1.trans s2)) ?_ ?_ ((R.same s1).ng hx)
  .rw [hx2];rfl
  .show (vH fs).length+1<=1000;rw [pE];omega
end
noncomputable def f0:List (Str×V)->Str
 |[]=>""
 |x::_=>x.1
structure rm (O:OA) (H H':Hp):Prop where
 kt:∀b xs,H b=some (.tup xs)->H' b=some (.tup xs)
 ki:∀b C dx fs,H b=some (.ins C dx fs)->f0 fs≠ "lands" ->H' b=some (.ins C dx fs)
 kd:∀b kvs,H b=some (.dK kvs)->b≠O.D->H' b=some (.dK kvs)
 kl:∀b xs,H b=some (.lst xs)->Nx O b->H' b=some (.lst xs)
 kb:∀b ps,H b=some (.jC ps)->H' b=some (.jC ps)
 kx:∀b φ,H b=some (.ext φ)->H' b=some (.ext φ)
section
variable {O:OA} {M:KE->Prop} {pas:List (KE×CA)} {H H' H1:Hp} {st:State} {a:KE} {A:CA} {k:Calendar}
theorem rm.lst (h:H D=some (.lst acc)) (n:D=O.L\/D=O.X\/D=O.G):rm O H (upd H D o):=
 #[λb xs e=>by rw [ai (aX e h nofun)];exact e,λb C dx fs e _=>by rw [ai (aX e h nofun)];exact e,λb kvs e _=>by rw [ai (aX e h nofun)];exact e,λb xs e q=>by rw [ai (n.elim (λz=>z▸q.1) λn=>n.elim (λz=>z▸q.2.1) λz=>z▸q.2.2)];exact e,λb ps e=>by rw [ai (aX e h nofun)];exact e,λb φ e=>by rw [ai (aX e h nofun)];exact e]
theorem rm.ins (h:H D=some (.ins C dx fs)) (n:f0 fs= "lands"):rm O H (upd H D o):=
 #[λb xs e=>by rw [ai (aX e h nofun)];exact e,λb C dx fs e q=>by rw [ai (λz=>by subst z;rw [h] at e;cases e;exact q n)];exact e,λb kvs e _=>by rw [ai (aX e h nofun)];exact e,λb xs e q=>by rw [ai (aX e h nofun)];exact e,λb ps e=>by rw [ai (aX e h nofun)];exact e,λb φ e=>by rw [ai (aX e h nofun)];exact e]
theorem rm.dict (h:H O.D=some (.dK kvs)):rm O H (upd H O.D o):=
 #[λb xs e=>by rw [ai (aX e h nofun)];exact e,λb C dx fs e _=>by rw [ai (aX e h nofun)];exact e,λb kvs e q=>by rw [ai q];exact e,λb xs e q=>by rw [ai (aX e h nofun)];exact e,λb ps e=>by rw [ai (aX e h nofun)];exact e,λb φ e=>by rw [ai (aX e h nofun)];exact e]
theorem mT.ch (h:mT c H) (s:rm O H H'):mT c H':=h.to (λps e=>s.kb _ _ e) λb φ e=>s.kx _ _ e
theorem gH.Rf (ki:∀b C dx fs,H b=some (.ins C dx fs)->f0 fs≠ "lands" ->H' b=some (.ins C dx fs)) (h:gH c H q x):gH c H' q x:=by
 cases x with
 |fixed m d=>obtain ⟨dx,e⟩:=h;exact #[dx,ki _ _ _ _ e (by show ("month" :Str)≠_;decide)]
 |moon off=>obtain ⟨dx,e⟩:=h;exact #[dx,ki _ _ _ _ e (by show ("behind" :Str)≠_;decide)]
 |nth k v m=>
  show (if k=0 then∃dx,H' q=some (.ins c.ck dx [("weekday",.int v),("month",.int m)]) else∃dx,H' q=some (.ins c.cW dx [("place",.int k),("weekday",.int v),("month",.int m)]));have h:(if k=0 then∃dx,H q=some (.ins c.ck dx [("weekday",.int v),("month",.int m)]) else∃dx,H q=some (.ins c.cW dx [("place",.int k),("weekday",.int v),("month",.int m)])):=h;by_cases z:k=0
  .rw [if_pos z] at h ⊢;obtain ⟨dx,e⟩:=h;exact #[dx,ki _ _ _ _ e (by show ("weekday" :Str)≠_;decide)]
  .rw [if_neg z] at h ⊢;obtain ⟨dx,e⟩:=h;exact #[dx,ki _ _ _ _ e (by show ("place" :Str)≠_;decide)]
 |from_ v m d=>obtain ⟨dx,b,bd,e,e2⟩:=h;exact #[dx,b,bd,ki _ _ _ _ e (by show ("weekday" :Str)≠_;decide),ki _ _ _ _ e2 (by show ("month" :Str)≠_;decide)]
theorem dN.Rf (ki:∀b C dx fs,H b=some (.ins C dx fs)->f0 fs≠ "lands" ->H' b=some (.ins C dx fs)) (kt:∀b xs,H b=some (.tup xs)->H' b=some (.tup xs)) (h:dN c H p f):dN c H' p f:=by
 obtain ⟨dx,q,y,h1,h2,h3⟩:=h;refine #[dx,q,y,ki _ _ _ _ h1 (by show ("rule" :Str)≠_;decide),h2.Rf ki,?_];cases e:f.years with
 |none=>rw [e] at h3;exact h3
 |some r=>rw [e] at h3;obtain ⟨t,a,b⟩:=h3;exact #[t,a,kt _ _ b]
theorem bz.ch (R:bz c M H a A k) (s:rm O H H') (hf:Nx O A.f) (hM:M O.D) (h1:A.cl≠O.D) (h2:A.no≠O.D) (mm:∀b,M b->∃kvs:List (Key×V),H' b=some (.dK kvs)):bz c M H' a A k:=by
 have ks:∀{b p},¬M b->eZ H b p->eZ H' b p:=λ{b p} n s'=>let ⟨kvs,e,q⟩:=s';⟨kvs,s.kd _ _ e (λz=>n (z▸hM)),q⟩
 refine #[s.ki _ _ _ _ R.obj (by show ("sentences" :Str)≠_;decide),ks R.nr R.rest,?_,ks R.ns R.shut,ks R.Hk R.opened,?_,?_,mm,R.nr,R.ns,R.Hk,R.Jq,R.Kb,R.ne,R.ok,R.rW]
 .obtain ⟨ps,h1,h2⟩:=R.feasts;exact #[ps,s.kl _ _ h1 hf,h2.imp λp f h=>h.Rf s.ki s.kt]
 .obtain ⟨kvs,e1,e2,h3⟩:=R.cl;refine #[kvs,s.kd _ _ e1 h1,e2,λy v h=>?_];obtain ⟨d,e,nm,q⟩:=h3 y v h;exact #[d,e,nm,ks nm q]
 .obtain ⟨kvs,e1,e2,h3⟩:=R.no;exact #[kvs,s.kd _ _ e1 h2,e2,h3]
theorem kF.ch {l:List (Nat×Nat)} (h:kF H b l) (s:rm O H H') (n:Nx O b):kF H' b l:=by obtain ⟨ps,e1,e2⟩:=h;exact #[ps,s.kl _ _ e1 n,e2.imp λp x h=>s.kt _ _ h]
theorem gl.ch (h:gl H b l) (s:rm O H H') (n:Nx O b):gl H' b l:=by obtain ⟨ps,e1,e2⟩:=h;exact #[ps,s.kl _ _ e1 n,e2.imp λp x h=>#[s.kt _ _ h.1,h.2]]
theorem iG.ch (h:iG c H p a x) (s:rm O H H') (f:Fc O H p):iG c H' p a x:=by obtain ⟨dx,t,e1,e2⟩:=h;exact #[dx,t,s.ki _ _ _ _ e1 (by show ("ahead" :Str)≠_;decide),s.kl _ _ e2 (f _ _ _ e1 "text" t (by simp))]
theorem r_.ch (h:r_ c H q e) (s:rm O H H') (f:Fc O H q):r_ c H' q e:=by obtain ⟨dx,t,u,e1,e2,e3,e4⟩:=h;exact #[dx,t,u,s.ki _ _ _ _ e1 (by show ("text" :Str)≠_;decide),s.kl _ _ e2 (f _ _ _ e1 "text" t (by simp)),e3,e4.ch s (f _ _ _ e1 "steps" u (by simp))]
theorem vQ.ch (h:vQ c H p x) (s:rm O H H'):vQ c H' p x:=by obtain ⟨⟨dx,e⟩,h⟩:=h;exact #[#[dx,s.ki _ _ _ _ e (by show ("kind" :Str)≠_;decide)],h]
theorem bI.kP (R:bI c O pas H st) (s:rm O H H') (mm:∃kvs:List (Key×V),H' O.D=some (.dK kvs)) {i:Nat} (h1:pas[i]? =some z) (h2:st.lands[i]? =some x):Bd c (dS O pas) H' z x/\Fc O H' z.1:=by
 have hz:=SE h1;obtain ⟨a,q1,q2,q3⟩:=R.each.at h1 h2;obtain ⟨n1,n2⟩:=R.nx z hz;have dx:=R.dict;refine #[#[a,q1.ch s n2,q2.ch s n1 (.inr rfl) (λe=>R.nD #[z,hz,.inl e.symm]) (λe=>R.nD #[z,hz,.inr e.symm]) λb hb=>?_,q3],?_]
 .by_cases e:b=O.D
  .subst e;exact mm
  .obtain ⟨kvs,e1⟩:=dx b hb;exact #[kvs,s.kd _ _ e1 e]
 .obtain ⟨dx,t,e1,e2⟩:=q1;exact n2.to e1 (s.ki _ _ _ _ e1 (by show ("ahead" :Str)≠_;decide))
theorem Be.ch (h:Be c H v o) (s:rm O H H') (f:∀q,v=some (.ref q)->Fc O H q):Be c H' v o:=by
 cases o with
 |none=>exact h
 |some e=>obtain ⟨q,e1,e2⟩:=h;exact #[q,e1,e2.ch s (f q e1)]
theorem uD (s:rm O H H') {kvs:List (Key×V)} (l4:∀k q,aY kvs k=some (.ref q)->Fc O H q/\∃e,r_ c H q e):∀k q,aY kvs k=some (.ref q)->Fc O H' q/\∃e,r_ c H' q e:=λk q hq=>by obtain ⟨f,e,h⟩:=l4 k q hq;obtain ⟨dx,t,u,e1,_⟩:=id h;exact #[f.to e1 (s.ki _ _ _ _ e1 (by show ("text" :Str)≠_;decide)),e,h.ch s f]
theorem bI.Hx (R:bI c O pas H st) {s:KE} {l:List (Nat×Nat)} (hs:kF H s l) (n:Nx O s) (ap:Apart l) (sl:l.length<=12) (si:Ka 146096 l):
 bI c O pas (upd H O.o (.ins c.dW O.dx [("lands",.ref O.L),("stretches",.ref s),("limits",.ref O.D),("acts",.ref O.X)])) {st with stops:=l}:=by
 obtain ⟨s0,o1,o2,o3⟩:=R.obj;obtain ⟨kl,l1,l2,l3,l4⟩:=R.limits;obtain ⟨xs,a1,a2⟩:=R.acts;have S:rm O H (upd H O.o (.ins c.dW O.dx [("lands",.ref O.L),("stretches",.ref s),("limits",.ref O.D),("acts",.ref O.X)])):=rm.ins o1 rfl;have kk:∀{b o},H b=some o->(∀C dx fs,o≠.ins C dx fs)->upd H O.o (.ins c.dW O.dx [("lands",.ref O.L),("stretches",.ref s),("limits",.ref O.D),("acts",.ref O.X)]) b=some o:=λ{b o} e h=>by rw [ai (aX e o1 (h _ _ _))];exact e
 have hD:=kk l1 λ_ _ _ z=>nomatch z;exact #[#[s,ae,hs.ch S n,n],kk R.lands nofun,cC.mk' R.each.length λi z x h1 h2=>(R.kP S #[_,hD] h1 h2).1,R.ap,R.len,#[kl,hD,l2,λn hn=>(l3 n hn).ch S λq hq=>(l4 _ q hq).1,uD S l4],R.Df,R.nD,#[xs,kk a1 nofun,a2.imp λp x h=>h.ch S],R.Dg,ap,sl,si,R.Ke,λz hz=>#[(R.nx z hz).1,by obtain ⟨i,hi⟩:=Tt hz;obtain ⟨x,hx,_⟩:=R.each.get hi;exact (R.kP S #[_,hD] hi hx).2],R.tab.ch S,let ⟨ys,e⟩:=R.gv.1;⟨ys,kk e nofun⟩,R.gv.2]
theorem bI.Mu (R:bI c O pas H st) {xs:List KE} (a1:H O.X=some (.lst (xs.map V.ref))) (a2:cC (vQ c H) xs st.acts) {p:KE} {x:Uw} (hp:vQ c H p x) (hl:st.acts.length<30):
 bI c O pas (upd H O.X (.lst (xs.map V.ref++[.ref p]))) {st with acts:=st.acts++[x]}:=by
 obtain ⟨s0,o1,o2,o3⟩:=R.obj;obtain ⟨kl,l1,l2,l3,l4⟩:=R.limits;have S:rm O H (upd H O.X (.lst (xs.map V.ref++[.ref p]))):=rm.lst a1 (.inr (.inl rfl));have kk:∀{b o},H b=some o->(∀xs,o≠.lst xs)->upd H O.X (.lst (xs.map V.ref++[.ref p])) b=some o:=λ{b o} e h=>by rw [ai (aX e a1 (h _))];exact e
 have hD:=kk l1 λ_ z=>nomatch z;refine #[#[s0,kk o1 nofun,o2.ch S o3,o3],by rw [ai R.Ke];exact R.lands,cC.mk' R.each.length λi z x h1 h2=>(R.kP S #[_,hD] h1 h2).1,R.ap,R.len,#[kl,hD,l2,λn hn=>(l3 n hn).ch S λq hq=>(l4 _ q hq).1,uD S l4],R.Df,R.nD,#[xs++[p],by rw [ae,Sw];rfl,(a2.imp λp x h=>h.ch S).snoc (hp.ch S)],?_,R.apart,R.Bf,R.sin,R.Ke,λz hz=>#[(R.nx z hz).1,by obtain ⟨i,hi⟩:=Tt hz;obtain ⟨x,hx,_⟩:=R.each.get hi;exact (R.kP S #[_,hD] hi hx).2],R.tab.ch S,let ⟨ys,e⟩:=R.gv.1;⟨ys,by rw [ai (λz=>R.gv.2.2 z.symm)];exact e⟩,R.gv.2]
 show (st.acts++[x]).length<=30;rw [Sq];exact hl
theorem bI.Ph (R:bI c O pas H st) (ws:List V):bI c O pas (upd H O.G (.lst ws)) st:=by
 obtain ⟨s0,o1,o2,o3⟩:=R.obj;obtain ⟨kl,l1,l2,l3,l4⟩:=R.limits;obtain ⟨xs,a1,a2⟩:=R.acts;obtain ⟨⟨ys,g1⟩,g2,g3⟩:=R.gv;have S:rm O H (upd H O.G (.lst ws)):=rm.lst g1 (.inr (.inr rfl));have kk:∀{b o},H b=some o->(∀xs,o≠.lst xs)->upd H O.G (.lst ws) b=some o:=λ{b o} e h=>by rw [ai (aX e g1 (h _))];exact e
 have hD:=kk l1 λ_ z=>nomatch z;exact #[#[s0,kk o1 nofun,o2.ch S o3,o3],by rw [ai g2];exact R.lands,cC.mk' R.each.length λi z x h1 h2=>(R.kP S #[_,hD] h1 h2).1,R.ap,R.len,#[kl,hD,l2,λn hn=>(l3 n hn).ch S λq hq=>(l4 _ q hq).1,uD S l4],R.Df,R.nD,#[xs,by rw [ai g3];exact a1,a2.imp λp x h=>h.ch S],R.Dg,R.apart,R.Bf,R.sin,R.Ke,λz hz=>#[(R.nx z hz).1,by obtain ⟨i,hi⟩:=Tt hz;obtain ⟨x,hx,_⟩:=R.each.get hi;exact (R.kP S #[_,hD] hi hx).2],R.tab.ch S,#[_,ae],g2,g3]
theorem bI.Mv (R:bI c O pas H st) {kvs:List (Key×V)} (h1:H O.D=some (.dK kvs)) {n:Nat} (hn:n<6) {q:KE} {e:Limit} (hq:r_ c H q e) (fq:Fc O H q):
 bI c O pas (upd H O.D (.dK (putK kvs (.inl (n:Int)) (.ref q)))) {st with limits:=st.limits.set n (some e)}:=by
 obtain ⟨s0,o1,o2,o3⟩:=R.obj;obtain ⟨kl,l1,l2,l3,l4⟩:=R.limits;rw [h1] at l1;cases l1;obtain ⟨xs,a1,a2⟩:=R.acts;have S:rm O H (upd H O.D (.dK (putK kvs (.inl (n:Int)) (.ref q)))):=rm.dict h1;have kk:∀{b o},H b=some o->(∀xs,o≠.dK xs)->upd H O.D (.dK (putK kvs (.inl (n:Int)) (.ref q))) b=some o:=λ{b o} e h=>by rw [ai (aX e h1 (h _))];exact e
 obtain ⟨dx,t,u,e1,_⟩:=id hq;refine #[#[s0,kk o1 nofun,o2.ch S o3,o3],kk R.lands nofun,cC.mk' R.each.length λi z x h1 h2=>(R.kP S #[_,ae] h1 h2).1,R.ap,R.len,#[_,ae,l2.O2 _ hn,λm hm=>?_,λk r hr=>?_],by show (st.limits.set n _).length=6;rw [UO];exact R.Df,R.nD,#[xs,kk a1 nofun,a2.imp λp x h=>h.ch S],R.Dg,R.apart,R.Bf,R.sin,R.Ke,λz hz=>#[(R.nx z hz).1,by obtain ⟨i,hi⟩:=Tt hz;obtain ⟨x,hx,_⟩:=R.each.get hi;exact (R.kP S #[_,ae] hi hx).2],R.tab.ch S,let ⟨ys,e⟩:=R.gv.1;⟨ys,kk e nofun⟩,R.gv.2]
 .rw [d7];show Be c _ _ ((st.limits.set n (some e))[m]?).join;rw [List.getElem?_set];by_cases z:n=m
  .subst z;rw [if_pos rfl,if_pos rfl,if_pos (by rw [R.Df];exact hn)];exact #[q,rfl,hq.ch S fq]
  .rw [if_neg (λy=>z (by have:=Ui y;omega)),if_neg z];exact (l3 m hm).ch S λq hq=>(l4 _ q hq).1
 .rw [d7] at hr;split at hr
  .cases hr;exact #[fq.to e1 (S.ki _ _ _ _ e1 (by show ("text" :Str)≠_;decide)),e,hq.ch S fq]
  .exact uD S l4 k r hr
theorem Hy {α:Type} {R:α->α->Prop}:∀{l:List α} {n:Nat} {z:α},l.Pairwise R->(∀y∈l,R y z/\R z y)->(l.set n z).Pairwise R
 |[],n,z,_,_=>.nil
 |a::l,0,z,h,g=>by obtain ⟨h1,h2⟩:=(T_).mp h;exact (T_).mpr #[λy hy=>(g y (Sh _ hy)).2,h2]
 |a::l,n+1,z,h,g=>by
  obtain ⟨h1,h2⟩:=(T_).mp h;refine (T_).mpr #[λy hy=>?_,Hy h2 λy hy=>g y (Sh _ hy)];rcases UI hy with hy|rfl
  .exact h1 y hy
  .exact (g a Sk).1
theorem bI.JA (R:bI c O pas H st) (s:aj H H1) {n:Nat} (hn:n<4) {z:KE×CA} {x:Land} {a:KE} (hO:iG c H1 z.1 a x) (B:fw c H1 a z.2 x.calendar.length x.calendar) (ok:jN x.calendar) (rW:∀s∈x.calendar,ku s) (lok:yO x)
 (fr:∀b,(b=z.2.r\/b=z.2.f\/b=z.2.s\/b=z.2.o\/b=z.2.cl\/b=z.2.no)->H b=none) (fn:Fc O H1 z.1):bI c O (pas.set n z) (upd H1 O.L (.lst ((pas.set n z).map λz=>V.ref z.1))) {st with lands:=st.lands.set n x}:=by
 have R1:=R.same s;obtain ⟨s0,o1,o2,o3⟩:=R1.obj;obtain ⟨kl,l1,l2,l3,l4⟩:=R1.limits;obtain ⟨xs,a1,a2⟩:=R1.acts;have S:rm O H1 (upd H1 O.L (.lst ((pas.set n z).map λz=>V.ref z.1))):=rm.lst R1.lands (.inl rfl);have kk:∀{b o},H1 b=some o->(∀xs,o≠.lst xs)->upd H1 O.L (.lst ((pas.set n z).map λz=>V.ref z.1)) b=some o:=λ{b o} e h=>by rw [ai (aX e R1.lands (h _))];exact e
 have hD:=kk l1 λ_ z=>nomatch z;obtain ⟨kvD,hD0,_⟩:=R.limits;have ne:∀{b d:KE} {o:HO},H b=some o->H d=none->b≠d:=λ{b d o} h1 h2 e=>by rw [e,h2] at h1;cases h1
 have mem':∀b,dS O (pas.set n z) b->dS O pas b\/b=z.2.cl\/b=z.2.no:=λb hb=>by
  rcases hb with ⟨y,hy,q⟩|rfl
  .rcases UI hy with hy|rfl
   .exact .inl (.inl #[y,hy,q])
   .exact .inr q
  .exact .inl (.inr rfl)
 have md:∀b,dS O (pas.set n z) b->∃kvs:List (Key×V),H1 b=some (.dK kvs):=λb hb=>by
  rcases mem' b hb with q|rfl|rfl
  .exact R1.dict b q
  .exact #[_,B.cl]
  .exact #[_,B.no]
 have md2:∀b,dS O (pas.set n z) b->∃kvs:List (Key×V),upd H1 O.L (.lst ((pas.set n z).map λz=>V.ref z.1)) b=some (.dK kvs):=λb hb=>let ⟨kvs,e⟩:=md b hb;⟨kvs,kk e λ_ z=>nomatch z⟩
 have hpl:=R.Ht;have hzm:z∈pas.set n z:=List.mem_set (by rw [hpl];exact hn) z;have nm:∀{b},H b=none->b≠z.2.cl->b≠z.2.no->¬dS O (pas.set n z) b:=λ{b} h h1 h2 hb=>by
  rcases mem' b hb with q|q|q
  .obtain ⟨kvs,e⟩:=R.dict b q;rw [h] at e;cases e
  .exact h1 q
  .exact h2 q
 have nz:=B.O3;obtain ⟨xs0,a10,_⟩:=R.acts;have xf:Nx O z.2.f:=#[λe=>ne R.lands (fr z.2.f (by simp)) e.symm,λe=>ne a10 (fr z.2.f (by simp)) e.symm,λe=>let ⟨_,h⟩:=R.gv.1;ne h (fr z.2.f (by simp)) e.symm];have new:Bd c (dS O (pas.set n z)) (upd H1 O.L (.lst ((pas.set n z).map λz=>V.ref z.1))) z x:=by have C:bz c (dS O (pas.set n z)) H1 a z.2 x.calendar:=B.made ok rW md (nm (fr _ (by simp)) nz.2.2.1 nz.2.2.2.1) (nm (fr _ (by simp)) nz.2.2.2.2.2.1 nz.2.2.2.2.2.2.1) (nm (fr _ (by simp)) nz.2.2.2.2.2.2.2.1 nz.2.2.2.2.2.2.2.2.1) (.inl #[z,hzm,.inl rfl]) (.inl #[z,hzm,.inr rfl]);exact #[a,hO.ch S fn,C.ch S xf (.inr rfl) (λe=>ne hD0 (fr _ (by simp)) e.symm) (λe=>ne hD0 (fr _ (by simp)) e.symm) md2,lok]
 refine #[#[s0,kk o1 nofun,o2.ch S o3,o3],ae,cC.mk' (by show (pas.set n z).length=(st.lands.set n x).length;rw [UO,UO];exact R.each.length) λi y x' h1 h2=>?_,Hy R.ap λy hy=>?_,by show (st.lands.set n x).length=4;rw [UO];exact R.len,#[kl,hD,l2,λn hn=>(l3 n hn).ch S λq hq=>(l4 _ q hq).1,uD S l4],R.Df,λhb=>?_,#[xs,by rw [ai (λe=>R.Ke e.symm)];exact a1,a2.imp λp x h=>h.ch S],R.Dg,R.apart,R.Bf,R.sin,R.Ke,λy hy=>?_,R1.tab.ch S,let ⟨ys,e⟩:=R1.gv.1;⟨ys,by rw [ai (λz=>R.gv.2.1 z.symm)];exact e⟩,R.gv.2]
 .have h2:(st.lands.set n x)[i]? =some x':=h2;rw [List.getElem?_set] at h1 h2;by_cases e:n=i
  .subst e;rw [if_pos rfl,if_pos (by rw [hpl];exact hn)] at h1;rw [if_pos rfl,if_pos (by rw [R.len];exact hn)] at h2;cases h1;cases h2;exact new
  .rw [if_neg e] at h1 h2;have hy:=SE h1;have hy':y∈pas.set n z:=SE (i:=i) (by rw [List.getElem?_set,if_neg e];exact h1);obtain ⟨a',q1,q2,q3⟩:=R.each.at h1 h2;have C:=q2.move s (M':=dS O (pas.set n z)) (λb hb=>(mem' b hb).imp id λq=>fr b (by rcases q with q|q<;>simp [q])) (.inl #[y,hy',.inl rfl]) (.inl #[y,hy',.inr rfl]) md;exact #[a',(q1.to λb o e _=>s b o e).ch S ((R1.nx y hy).2),C.ch S (R.nx y hy).1 (.inr rfl) (λe=>R.nD #[y,hy,.inl e.symm]) (λe=>R.nD #[y,hy,.inr e.symm]) md2,q3]
 .obtain ⟨k1,e1⟩:=R.dict y.2.cl (.inl #[y,hy,.inl rfl]);obtain ⟨k2,e2⟩:=R.dict y.2.no (.inl #[y,hy,.inr rfl]);have f1:=fr z.2.cl (by simp);have f2:=fr z.2.no (by simp);exact #[#[ne e1 f1,ne e1 f2,ne e2 f1,ne e2 f2],#[(ne e1 f1).symm,(ne e2 f1).symm,(ne e1 f2).symm,(ne e2 f2).symm]]
 .obtain ⟨y,hy,q⟩:=hb;rcases UI hy with hy|rfl
  .exact R.nD #[y,hy,q]
  .rcases q with q|q
   .exact ne hD0 (fr _ (by simp)) q
   .exact ne hD0 (fr _ (by simp)) q
 .rcases UI hy with hy|rfl
  .refine #[(R.nx y hy).1,?_];obtain ⟨i,hi⟩:=Tt hy;obtain ⟨x',hx,_⟩:=R1.each.get hi;exact (R1.kP S #[_,hD] hi hx).2
  .refine #[xf,?_];obtain ⟨dx,t,e1,_⟩:=hO;exact fn.to e1 (S.ki _ _ _ _ e1 (by show ("ahead" :Str)≠_;decide))
end
theorem Hz (h:te σ H λv H1=>to σ H1 λo H2=>ti σ H2 λi H3=>r o i v H3 λH4=>D.nx σ H4):Cb te (Nn to ti r) D σ H:=h
theorem Mw {k:Int} {j:Nat} {Q:Hp->Prop} (h:H p=some (.lst xs)) (e:Fs xs.length k=some j) (q:Q (upd H p (.lst (xs.set j v)))):JV (.ref p) (.int k) v H Q:=#[p,xs,k,j,rfl,rfl,h,e,q]
theorem Bm (a b:Nat):min (a:Int) (b:Int)=((min a b:Nat):Int):=by omega
theorem uE (a b:Nat):max (a:Int) (b:Int)=((max a b:Nat):Int):=by omega
theorem JB {n j:Nat} (h:j<n):Fs n (j:Int)=some j:=by unfold Fs;rw [if_pos (by omega),if_pos (by omega)];simp
theorem vR.same (k:vR O H H1) (s:aj H1 H2):vR O H H2:=λb o e n1 n2 n3 h=>s b o (k b o e n1 n2 n3 h)
theorem vR.pre (s:aj H H1) (k:vR O H1 H2):vR O H H2:=λb o e n1 n2 n3 h=>k b o (s b o e) n1 n2 n3 h
theorem vR.upd (n:D=O.o\/D=O.L\/D=O.X):vR O H (upd H D o):=λb u e n1 n2 n3 _=>by rw [ai (λz=>by subst z;rcases n with rfl|rfl|rfl<;>contradiction)];exact e
theorem vR.Rg (h:H D=some (.dK kvs)):vR O H (L2.upd H D o):=λb u e _ _ _ hn=>by rw [ai (aX e h (hn.k _))];exact e
theorem bI.qK {O:OA} {pas:List (KE×CA)} {H:Hp} {st:State} (R:bI c O pas H st) {b:KE} (h:H b=none):Nx O b:=by obtain ⟨xs,a1,_⟩:=R.acts;exact #[λe=>(by rw [e,R.lands] at h;cases h),λe=>(by rw [e,a1] at h;cases h),λe=>(by obtain ⟨ys,g⟩:=R.gv.1;rw [e,g] at h;cases h)]
theorem cC.zip:∀{qs:List KE} {L:List (Nat×Nat)},cC (AS H) qs L->∃zs:List (KE×(Nat×Nat)),qs=zs.map (·.1)/\L=zs.map (·.2)/\∀z∈zs,AS H z.1 z.2
 |_,_,.nil=>#[[],rfl,rfl,λz h=>nomatch h]
 |_,_,.cons r t=>by obtain ⟨zs,e1,e2,e3⟩:=cC.zip t;exact #[(_,_)::zs,by rw [e1];rfl,by rw [e2];rfl,λz hz=>((Sg).mp hz).elim (λe=>e▸r) (e3 z)]
theorem cC.unzip:∀{zs:List (KE×(Nat×Nat))},(∀z∈zs,AS H z.1 z.2)->cC (AS H) (zs.map (·.1)) (zs.map (·.2))
 |[],_=>.nil
 |z::zs,h=>.cons (h z Sk) (cC.unzip λy hy=>h y (Sh _ hy))
theorem Fd {K:UT} {H:Hp} {Q:VK} {a:KE} {qs:List KE} {L:List (Nat×Nat)} (h:H a=some (.lst (qs.map V.ref))) (hL:cC (AS H) qs L)
 (k:∀(qs':List KE) (L':List (Nat×Nat)) (p:KE),L'.Perm L->L'.Pairwise lexLe->cC (AS H) qs' L'->H p=none->Q (.ref p) (upd H p (.lst (qs'.map V.ref)))):tR K [.ref a] H Q:=by
 obtain ⟨zs,rfl,rfl,hz⟩:=hL.zip;refine EQ (zs:=zs.map λz=>(z.1,((z.2.1:Nat):Int),((z.2.2:Nat):Int))) (by rw [h,T2,T2];rfl) (λz hm=>?_) λzs' p h1 h2 hp=>?_
 .obtain ⟨y,hy,rfl⟩:=(Te).mp hm;exact hz y hy
 .obtain ⟨l,e1,e2⟩:=lG h1.symm zs rfl;subst e2;have:=k (l.map (·.1)) (l.map (·.2)) p (e1.map _) ?_ (.unzip λz hm=>hz z (e1.mem_iff.mp hm)) hp
  .rw [T2] at this ⊢;exact this
  .rw [List.pairwise_map] at h2 ⊢;exact h2.imp λ{x y} q=>by unfold vy at q;unfold lexLe;dsimp only at q;omega
section
theorem eN:al ["office","numbers","place","ahead","post","text","calendar"] ["office","numbers"] (ah (top 92)):=by ext
noncomputable def yY (c:Cl):Sp:=pz c (λst ns=>step st [3::ns.take 3,ns.drop 3]) (λns=>∃a b d t,ns=a::b::d::t)
theorem yZ (T:Tx):FO (cf P w) 9 "call_land" ["office","numbers"] (yY c):=by
 refine T.zJ.gX eN (by ext) λf _ A _ _ H vs Q E hr h=>?_;obtain ⟨O,pas,st,p,ns,rfl,R,hp,⟨a,b,d,t,rfl⟩,h⟩:=h;have hp:H p=some (.lst (.int a:: .int b:: .int d::t.map V.int)):=hp;replace h:Out c O pas H st (step st [[3,a,b,d],t]) Q E:=h;rw [Pa] at h;exists (aa (bt 2 eN.nd (bK (bE T) hr.m (dH (cR (pv 1) ag) ag (gI 3 T.gA rfl))))
  (aa (bt 3 eN.nd (bK (bE T) hr.m (dH (cR (pv 1) ag) (k6 gP (gI 720 T.qT rfl)) (gI 840 T.xp rfl))))
  (aa (bt 4 eN.nd (bK (bE T) hr.m (dH (cR (pv 1) ag) ag (gI 30 T.zG rfl))))
  (aa (bt 5 eN.nd (bK (pC T) hr.m (cz (cX ic (pv 1) (cr ag) ib) (gI 800 T.sN rfl))))
  (aa (bt 6 eN.nd (bK (qF T) hr.m (aV (pv 5))))
  (aa (KG (gF (D9 T) hr.m rfl bq (bY (pv 3) (dH (pv 4) (pv 5) (pv 6)))) (KF (aq (pv 0) rfl) (pv 2) set_list))
  (ac (am (aQ (aV (aq (pv 6) rfl)))))))))))
 rfl';refine #[a,0,3,rfl,λq1=>?_,λq=>h.no R fU (bo (dO q)) (aj.refl _)];rfl';refine #[b,-720,840,rfl,λq2=>?_,λq=>h.no R fU (bo (bW (dO q))) (aj.refl _)];rfl';refine #[d,0,30,rfl,λq3=>?_,λq=>h.no R fU (bo (bW (bW (dO q)))) (aj.refl _)];rfl';refine tQ (cB.of hp) λq hq=>?_;rfl';refine #[q,t,800,rfl,by rw [ae,show (3:Int)=((3:Nat):Int) from rfl,mJ];rfl,Sf _,λht H1 u s1 hu1 hu hul=>?_,λht H1 s1=>h.no R fU (bo (bW (bW (bW ht)))) ((aj.upd hq).trans s1)];rw [cy (wt q1 (wt q2 (wt q3 ht)))] at h;have s2:aj H H1:=(aj.upd hq).trans s1;rfl';refine #[u,bytes t,rfl,hu,hul,λk hk H2 ca A s3 hca hA B=>?_,λhk H2 s3=>h.no R RM (by rw [hk]) (s2.trans s3)];rw [hk] at h;dsimp only at h;obtain ⟨hsh,hsaid,a7⟩:=jP hk;obtain ⟨n,rfl⟩:=aT q1.1;obtain ⟨d,rfl⟩:=aT q3.1;rw [So,So] at h;rfl';refine Hz ?_;rfl';intro x dx hx hdx hne;refine #[x,dx,.int b,.int (d:Nat),.ref u,.ref ca,rfl,ae,rfl,?_];have s4:aj H2 (upd (upd (upd H2 dx (.own x)) x (.ins c.Land dx [])) x (.ins c.Land dx [("ahead",.int b),("post",.int (d:Nat)),("text",.ref u),("calendar",.ref ca)])):=by rw [bX];exact (aj.upd hdx).trans (aj.upd (by rw [ai hne.symm];exact hx))
 generalize hH3:upd (upd (upd H2 dx (.own x)) x (.ins c.Land dx [])) x (.ins c.Land dx [("ahead",.int b),("post",.int (d:Nat)),("text",.ref u),("calendar",.ref ca)])=H3 at s4;have hx3:H3 x=some (.ins c.Land dx [("ahead",.int b),("post",.int (d:Nat)),("text",.ref u),("calendar",.ref ca)]):=by rw [<-hH3];exact ae
 have s5:aj H H3:=(s2.trans s3).trans s4;have R3:=R.same s5;obtain ⟨so,ho,_⟩:=R3.obj;rfl';refine ay ho T.aN T.cT rfl ?_;rfl';have hn:n<4:=by omega
 refine Mw R3.lands (by rw [w4,R.Ht];exact JB hn) ?_;have fr:∀y,(y=A.r\/y=A.f\/y=A.s\/y=A.o\/y=A.cl\/y=A.no)->H y=none:=λy hy=>s2.free (hA y hy);have hu0:H u=none:=(aj.upd hq).free hu1;have R4:=R.JA (H1:=H3) s5 hn (z:=(x,A)) (x:=#[k,b,d]) (a:=ca) #[dx,u,hx3,by rw [show shownCalendar k=bytes t from hsh];exact s4 _ _ (s3 _ _ hu)] (B.to s4) a7 hsaid #[q2.1,q2.2,by show d<=30;omega,by rw [show shownCalendar k=bytes t from hsh];exact hul] fr (λC dx' fs hf f t' hm=>by
  rw [hx3] at hf;cases hf;simp only [Sg,SI,or_false,Prod.mk.injEq,V.ref.injEq,reduceCtorEq,and_false,false_or] at hm;rcases hm with ⟨_,rfl⟩|⟨_,rfl⟩
  .exact R.qK hu0
  .exact R.qK (s2.free hca))
 have e1:(pas.map λz=>V.ref z.1).set n (.ref x)=(pas.set n (x,A)).map λz=>V.ref z.1:=by rw [List.map_set]
 rw [e1];have hca4:upd H3 O.L (.lst ((pas.set n (x,A)).map λz=>V.ref z.1)) ca=some (.ins c.Calendar A.dx (l6 k.length A)):=by have:=s4 _ _ B.obj;rw [ai (aX this R3.lands nofun)];exact this
 rfl';refine ay hca4 T.aB T.dL rfl ?_;rfl';refine #[by show 1<=sizeLine;decide,λy hy=>?_];exact h.ret _ y _ (R4.same (aj.upd hy)) (((vR.upd (.inr (.inl rfl))).pre s5).same (aj.upd hy)) ae w8 (R4.ng hy)
theorem ot:al ["stretches","first","last","kept","stretch"] ["stretches","first","last"] (ah (top 40)):=by ext
noncomputable def Di:Sp:=Au λ(a:KE) (l:List (Nat×Nat)) (m n:Nat) vs H Q _=>vs=[.ref a,.int m,.int n]/\kF H a l/\l.length<=12/\m<=n/\∀(H':Hp) (q:KE),aj H H'->H q=none->kF H' q (Vbptaa.gone m n l)->Q (.ref q) H'
theorem Dk (T:Tx):FO d8 1 "with_go" ["stretches","first","last"] Di:=by
 refine T.Eg.g ot (by ext) λ_ _ _ _ _ H vs Q E hr h=>?_;obtain ⟨a,l,m,n,rfl,⟨ps,ha,hp⟩,hl,hmn,k⟩:=h;exists (aa (bt 3 ot.nd (aQ fi))
  (aa (cp Tb rfl (cb (pv 0)) (bg (i:=4) ot.nd rfl (by first|exact Tk rfl|exact Tp rfl)) (aa (aL (aA sZ (k9 (pv 4) ag) (pv 1) (aE _)) (ac (bA (dG Sr SD SF bD (pv 3) (aV (gQ (cz (k9 (pv 4) ag) (aJ (oU rfl) (by rfl) T.zo Uj (cz (k9 (pv 4) ag) (az cq (pv 1) ag))))))))) aC)
  (ac (aL (aA iP (k9 (pv 4) ag) (pv 2) (aE _)) (ac (bA (dG Sr SD SF bD (pv 3) (aV (gQ (cz (aJ (ie rfl) (by rfl) T.m9 Tj (cz (k9 (pv 4) ag) (az aP (pv 2) ag))) (k9 (pv 4) ag))))))) aC))))
  (ac (am (pv 3)))))
 rfl';refine #[by decide,λq hq=>?_];have ha0:=aj.upd (o:=.lst []) hq _ _ ha;rfl';refine bR (xs:=ps.map V.ref) (λi σ' H'=>(∃qs,KL H q H' (Vbptaa.gone m n (l.take i)) qs)/\∃v,σ'=[some (.ref a),some (.int m),some (.int n),some (.ref q),v]) #[#[_,.start hq],none,rfl] (λi σ' H' _ h=>by obtain ⟨⟨_,h⟩,_⟩:=h;exact cB.of (h.get ha)) ?_ ?_
 .rintro i y σ' H' hy ⟨⟨qs,kl⟩,v,rfl⟩;obtain ⟨p,hpi,rfl⟩:=fg hy;obtain ⟨x,hx,hR⟩:=hp.get hpi;have hlen:qs.length<=24:=by
   rw [kl.vH.length];have:=AT m n (l.take i);have:(l.take i).length<=l.length:=by rw [S8];omega
   omega
  have e:=E4 m n (l.take i) x;rw [<-take_snoc hx] at e;have hR1:H' p=some (.tup [.int x.1,.int x.2]):=kl.get hR;have hq1:=kl.at_;rfl';by_cases c1:(x.1:Int)<m
  .rw [if_pos c1];rw [if_pos (by omega)] at e;rfl';refine #[by show 2<=sizeLine;decide,λp1 hp1=>?_];rfl';refine bN (kl.put hp1) (by rw [w4];exact aI (by omega)) ?_;have e1:V.int (min (x.2:Int) ((m:Int)- 1))= .int ((min x.2 (m - 1):Nat):Int):=by congr 1;omega
   rw [e1];have kl2:=kl.app hp1 (x.1,min x.2 (m - 1));generalize upd (upd H' p1 (HO.tup [.int x.1,.int (min x.2 (m - 1):Nat)])) q (.lst (qs.map V.ref++[.ref p1]))=H2 at kl2 ⊢;have hR2:H2 p=some (.tup [.int x.1,.int x.2]):=kl2.get hR;have hq2:=kl2.at_;rfl';by_cases c2:(n:Int)<x.2
   .rw [if_pos c2];rw [if_pos (by omega)] at e;rfl';refine #[by show 2<=sizeLine;decide,λp2 hp2=>?_];rfl';refine bN (kl2.put hp2) (by rw [w4,Sq];exact aI (by simp;omega)) ?_;have e2:V.int (max (x.1:Int) ((n:Int)+1))= .int ((max x.1 (n+1):Nat):Int):=by congr 1;omega
    rw [e2];have kl3:=kl2.app hp2 (max x.1 (n+1),x.2);refine #[#[qs++[p1]++[p2],?_],_,rfl];rw [e,<-Tq];exact kl3
   .rw [if_neg c2];rw [if_neg (by omega),Td] at e;refine #[#[qs++[p1],?_],_,rfl];rw [e];exact kl2
  .rw [if_neg c1];rw [if_neg (by omega),List.nil_append] at e;rfl';by_cases c2:(n:Int)<x.2
   .rw [if_pos c2];rw [if_pos (by omega)] at e;rfl';refine #[by show 2<=sizeLine;decide,λp2 hp2=>?_];rfl';refine bN (kl.put hp2) (by rw [w4];exact aI (by omega)) ?_;have e2:V.int (max (x.1:Int) ((n:Int)+1))= .int ((max x.1 (n+1):Nat):Int):=by congr 1;omega
    rw [e2];have kl3:=kl.app hp2 (max x.1 (n+1),x.2);refine #[#[qs++[p2],?_],_,rfl];rw [e];exact kl3
   .rw [if_neg c2];rw [if_neg (by omega),Td] at e;refine #[#[qs,?_],_,rfl];rw [e];exact kl
 .rintro σ' H' ⟨⟨qs,kl⟩,v,rfl⟩;rfl';rw [w4,hp.length,SX] at kl;exact k _ _ kl.same hq #[qs,kl.at_,kl.vH]
theorem dD:al ["stretches","first","last","joined_first","joined_last","kept","stretch"] ["stretches","first","last"] (ah (top 39)):=by ext
noncomputable def y3:Sp:=Au λ(a:KE) (l:List (Nat×Nat)) (m n:Nat) vs H Q _=>vs=[.ref a,.int m,.int n]/\kF H a l/\l.length<=12/\m<=n/\Apart l/\∀(H':Hp) (q:KE),aj H H'->H q=none->kF H' q (Vbptaa.stopped m n l)->Q (.ref q) H'
theorem D_ {m n:Nat} {x:Nat×Nat} (h:(x.2:Int)<(m:Int)- 1\/(n:Int)+1<x.1):fX m n x=true:=by unfold fX;rw [Us,decide_eq_true_eq,decide_eq_true_eq];omega
theorem JC {m n:Nat} {x:Nat×Nat} (h:¬(x.2:Int)<(m:Int)- 1) (g:¬(n:Int)+1<x.1):fX m n x=false:=by unfold fX;rw [decide_eq_false (by omega),decide_eq_false (by omega)];rfl
theorem y4 (T:Tx):FO d8 1 "with_stop" ["stretches","first","last"] y3:=by
 refine T.zw.g dD (by ext) λ_ _ _ _ _ H vs Q E hr h=>?_;obtain ⟨a,l,m,n,rfl,⟨ps,ha,hp⟩,hl,hmn,hA,k⟩:=h;exists (aa (bt 3 dD.nd (pv 1))
  (aa (bt 4 dD.nd (pv 2))
  (aa (bt 5 dD.nd (aQ fi))
  (aa (cp Tb rfl (cb (pv 0)) (bg (i:=6) dD.nd rfl (by first|exact Tk rfl|exact Tp rfl)) (ac (aL (PW.pt (nh (aA sZ (k9 (pv 6) ag) (az cq (pv 1) ag) (aE _)) (jf (aA iP (k9 (pv 6) ag) (az aP (pv 2) ag) (aE _))))) (ac (bA (dG Sr SD SF bD (pv 5) (aV (pv 6))))) (aa (bt 3 dD.nd (aJ (oU rfl) (by rfl) T.zo Uj (cz (pv 3) (k9 (pv 6) ag))))
  (ac (bt 4 dD.nd (aJ (ie rfl) (by rfl) T.m9 Tj (cz (pv 4) (k9 (pv 6) ag)))))))))
  (aa (bA (dG Sr SD SF bD (pv 5) (aV (gQ (cz (pv 3) (pv 4))))))
  (ac (am (aJ CJ (by rfl) T.zp PyProof.Rows.boot_sorted (aV (pv 5))))))))))
 rfl';refine #[by decide,λq hq=>?_];have ha0:=aj.upd (o:=.lst []) hq _ _ ha;rfl';refine bR (xs:=ps.map V.ref) (λi σ' H'=>(∃qs,KL H q H' ((l.take i).filter (fX m n)) qs)/\∃v,σ'=[some (.ref a),some (.int m),some (.int n),some (.int ((bG m n (l.take i) (m,n)).1:Nat)),some (.int ((bG m n (l.take i) (m,n)).2:Nat)),some (.ref q),v]) #[#[_,.start hq],none,rfl] (λi σ' H' _ h=>by obtain ⟨⟨_,h⟩,_⟩:=h;exact cB.of (h.get ha)) ?_ ?_
 .rintro i y σ' H' hy ⟨⟨qs,kl⟩,v,rfl⟩;obtain ⟨p,hpi,rfl⟩:=fg hy;obtain ⟨x,hx,hR⟩:=hp.get hpi;have hlen:qs.length<=12:=by
   rw [kl.vH.length];have:=List.length_filter_le (fX m n) (l.take i);have:(l.take i).length<=l.length:=by rw [S8];omega
   omega
  have hR1:H' p=some (.tup [.int x.1,.int x.2]):=kl.get hR;have hq1:=kl.at_;have keep:fX m n x=true->oM (.ref q) [.ref p] H' λ_ H2=>(∃qs,KL H q H2 ((l.take (i+1)).filter (fX m n)) qs)/\∃v,[some (V.ref a),some (.int m),some (.int n),some (.int ((bG m n (l.take i) (m,n)).1:Nat)),some (.int ((bG m n (l.take i) (m,n)).2:Nat)),some (.ref q),some (.ref p)]=[some (V.ref a),some (.int m),some (.int n),some (.int ((bG m n (l.take (i+1)) (m,n)).1:Nat)),some (.int ((bG m n (l.take (i+1)) (m,n)).2:Nat)),some (.ref q),v]:=λc=>by
   refine bN hq1 (by rw [w4];exact aI (by omega)) ?_;rw [take_snoc hx,jl,if_pos c,List.filter_append,TW c,List.filter_nil];refine #[#[qs++[p],λb o e=>by rw [ai (ak e hq)];exact kl.same b o e,hq,by rw [ae,Sw];rfl,?_],_,rfl];refine (kl.vH.imp λb z h=>?_).snoc ?_
   .show upd H' q _ b=_;rw [ai (aX h hq1 nofun)];exact h
   .show upd H' q _ p=_;rw [ai (aX hR1 hq1 nofun)];exact hR1
  rfl';by_cases c1:(x.2:Int)<(m:Int)- 1
  .rw [if_pos c1];rfl';exact keep (D_ (.inl c1))
  .rw [if_neg c1];rfl';by_cases c2:(n:Int)+1<x.1
   .rw [if_pos c2];rfl';exact keep (D_ (.inr c2))
   .rw [if_neg c2];rfl';have c:=JC c1 c2;refine #[#[qs,?_],?_]
    .rw [take_snoc hx,List.filter_append,Tf (by rw [c];simp),List.filter_nil,Td];exact kl
    .rw [take_snoc hx,jl,if_neg (by rw [c];simp)];refine #[some (.ref p),?_];show _=[_,_,_,some (V.int ((min _ _:Nat):Int)),some (V.int ((max _ _:Nat):Int)),_,_];rw [<-Bm,<-uE];rfl
 .rintro σ' H' ⟨⟨qs,kl⟩,v,rfl⟩;rw [w4,hp.length,SX] at kl ⊢;have hlen:qs.length<=12:=by rw [kl.vH.length];have:=List.length_filter_le (fX m n) l;omega
  have hq1:=kl.at_;rfl';refine #[by show 2<=sizeLine;decide,λp1 hp1=>?_];rfl';refine bN (kl.put hp1) (by rw [w4];exact aI (by omega)) ?_;have kl2:=kl.app hp1 (bG m n l (m,n));rfl';refine Fd kl2.at_ kl2.vH λqs' L' r h1 h2 h3 hr=>?_;have e:=t9 hmn hA h1 h2;subst e;exact k _ r (kl2.same.trans (aj.upd hr)) (kl2.same.free hr) #[qs',ae,h3.imp λb z h=>aj.upd hr _ _ h]
theorem Mx (st:State) (n m:Int):step st [[11,n,m]]=if (Sm n 0 146096&&(Sm m 0 146096&&(decide (n<=m)&&decide (m<=n+4000))))=false then (st,[-1]) else if 12<(stopped n.toNat m.toNat st.stops).length then (st,[-3]) else ({st with stops:=stopped n.toNat m.toNat st.stops},Sz [(stopped n.toNat m.toNat st.stops).length]):=rfl
theorem My (st:State) (n m:Int):step st [[12,n,m]]=if (Sm n 0 146096&&(Sm m 0 146096&&(decide (n<=m)&&decide (m<=n+4000))))=false then (st,[-1]) else if 12<(gone n.toNat m.toNat st.stops).length then (st,[-3]) else ({st with stops:=gone n.toNat m.toNat st.stops},Sz [(gone n.toNat m.toNat st.stops).length]):=rfl
theorem Mz (st:State):step st [[13]]=(st,Sz (st.stops.length::st.stops.flatMap λx=>[x.1,x.2])):=rfl
theorem MA (st:State) (n m:Int):step st [[14,n,m]]=if (Sm n 0 146096&&(Sm m 0 146096&&decide (n<=m)))=false then (st,[-1]) else (st,Sz [Vbptaa.still st.stops n.toNat m.toNat]):=rfl
theorem pF:al ["office","stretches"] ["office","stretches"] (ah (top 149)):=by ext
noncomputable def pG (c:Cl):Sp:=Av λ(O:OA) (pas:List (KE×CA)) (st:State) (s:KE) (l:List (Nat×Nat)) vs H Q E=>vs=[.ref O.o,.ref s]/\bI c O pas H st/\kF H s l/\Nx O s/\Apart l/\Ka 146096 l/\(12<l.length->E (.ref c.iM) none H)/\
 (l.length<=12->∀H' q,bI c O pas H' {st with stops:=l}->vR O H H'->H' q=some (.lst [.int (l.length:Nat)])->q≠O.G->Q (.ref q) H')
theorem i8 (T:Tx):FO (cf P w) 1 "keep_stretches" ["office","stretches"] (pG c):=by
 refine T.p0.gX pF (by ext) λ_ _ _ _ s H vs Q E hr h=>?_;obtain ⟨O,pas,st,s,l,rfl,R,hs,hn,hA,hI,k1,k2⟩:=h;exists (aa (aL (aA iP (aJ cu (by rfl) T.eQ S0 (aV (pv 1))) (gI 12 T.pZ rfl) (aE _)) (ac (bw newX rfl rfl T.nP T.j1)) aC)
  (aa (a9 (pv 0) (pv 1) rfl)
  (ac (am (aQ (aV (aJ cu (by rfl) T.eQ S0 (aV (pv 1)))))))))
 obtain ⟨so,ho,_⟩:=R.obj;obtain ⟨ps,h1,h2⟩:=id hs;rfl';rw [w4,h2.length];by_cases z:(12:Int)<(l.length:Nat)
 .rw [if_pos z];rfl';exact k1 (by omega)
 .rw [if_neg z];rfl';refine GK ho T.aN T.aK (by show 4<1000;decide) ?_;have R2:=R.Hx hs hn hA (by omega) hI;have h3:upd H O.o (.ins c.dW O.dx [("lands",.ref O.L),("stretches",.ref s),("limits",.ref O.D),("acts",.ref O.X)]) s=some (.lst (ps.map V.ref)):=by rw [ai (aX h1 ho nofun)];exact h1
  rw [show gD "stretches" (V.ref s) ([("lands",V.ref O.L),("stretches",.ref so),("limits",.ref O.D),("acts",.ref O.X)]:List (Str×V))=([("lands",.ref O.L),("stretches",.ref s),("limits",.ref O.D),("acts",.ref O.X)]:List (Str×V)) from rfl];rfl';rw [w4,h2.length];refine #[by show 1<=sizeLine;decide,λy hy=>?_];exact k2 (by omega) _ y (R2.same (aj.upd hy)) ((vR.upd (.inl rfl)).same (aj.upd hy)) ae (R2.ng hy)
theorem kQ:al ["office","numbers","first","last"] ["office","numbers"] (ah (top 150)):=by ext
noncomputable def y8 (c:Cl):Sp:=pz c (λst ns=>step st [11::ns]) vS
theorem y9 (T:Tx):FO (cf P w) 4 "call_stop" ["office","numbers"] (y8 c):=by
 refine T.zT.gX kQ (by ext) λ_ _ _ _ _ H vs Q E hr h=>?_;obtain ⟨O,pas,st,p,ns,rfl,R,hp,⟨n,m,rfl⟩,h⟩:=h;have hp:H p=some (.lst [.int n,.int m]):=hp;replace h:Out c O pas H st (step st [[11,n,m]]) Q E:=h;rw [Mx] at h;exists (aa (bt 2 kQ.nd (bK (aZ T) hr.m (aV (cR (pv 1) ag))))
  (aa (bt 3 kQ.nd (bK (cJ T) hr.m (dH (cR (pv 1) ag) (pv 2) (gI 4000 T.jI rfl))))
  (ac (am (bK (i8 T) hr.m (cz (pv 0) (fW (y4 T) hr.m (dH (aq (pv 0) rfl) (pv 2) (pv 3)))))))))
 rfl';refine #[n,rfl,λq1=>?_,λq=>h.no R fU (bo (dO q)) (aj.refl _)];rfl';refine #[m,n,4000,rfl,λq2=>?_,λq=>h.no R fU (bo (bW ?_)) (aj.refl _)]
 .rw [cy (wt q1 (wt (by omega) (ux.mpr (by omega))))] at h;obtain ⟨n,rfl⟩:=aT q1.1;obtain ⟨m,rfl⟩:=aT q2.1;rw [So,So] at h;obtain ⟨so,ho,hs,_⟩:=R.obj;rfl';refine ay ho T.aN T.aK rfl ?_;rfl';refine #[so,st.stops,n,m,rfl,hs,R.Bf,by omega,R.apart,λH1 q s1 hq hq1=>?_];rfl';refine #[O,pas,st,q,stopped n m st.stops,rfl,R.same s1,hq1,R.qK hq,(ny _ n m (by omega) R.apart).1,n8 _ _ _ (by omega) R.sin,λz=>?_,λz H2 y R2 kp hy nq=>?_]
  .rw [if_pos z] at h;exact h.no R Rb rfl s1
  .rw [if_neg (by omega)] at h;exact h.ret _ y _ R2 (kp.pre s1) hy w8 nq
 .by_cases z:0<=m/\m<=146096
  .exact bW (Jz (by omega))
  .exact dO z
theorem ou:al ["office","numbers","first","last"] ["office","numbers"] (ah (top 151)):=by ext
noncomputable def Dl (c:Cl):Sp:=pz c (λst ns=>step st [12::ns]) vS
theorem Dm (T:Tx):FO (cf P w) 4 "call_go" ["office","numbers"] (Dl c):=by
 refine T.El.gX ou (by ext) λ_ _ _ _ _ H vs Q E hr h=>?_;obtain ⟨O,pas,st,p,ns,rfl,R,hp,⟨n,m,rfl⟩,h⟩:=h;have hp:H p=some (.lst [.int n,.int m]):=hp;replace h:Out c O pas H st (step st [[12,n,m]]) Q E:=h;rw [My] at h;exists (aa (bt 2 ou.nd (bK (aZ T) hr.m (aV (cR (pv 1) ag))))
  (aa (bt 3 ou.nd (bK (cJ T) hr.m (dH (cR (pv 1) ag) (pv 2) (gI 4000 T.jI rfl))))
  (ac (am (bK (i8 T) hr.m (cz (pv 0) (fW (Dk T) hr.m (dH (aq (pv 0) rfl) (pv 2) (pv 3)))))))))
 rfl';refine #[n,rfl,λq1=>?_,λq=>h.no R fU (bo (dO q)) (aj.refl _)];rfl';refine #[m,n,4000,rfl,λq2=>?_,λq=>h.no R fU (bo (bW ?_)) (aj.refl _)]
 .rw [cy (wt q1 (wt (by omega) (ux.mpr (by omega))))] at h;obtain ⟨n,rfl⟩:=aT q1.1;obtain ⟨m,rfl⟩:=aT q2.1;rw [So,So] at h;obtain ⟨so,ho,hs,_⟩:=R.obj;rfl';refine ay ho T.aN T.aK rfl ?_;rfl';refine #[so,st.stops,n,m,rfl,hs,R.Bf,by omega,λH1 q s1 hq hq1=>?_];rfl';refine #[O,pas,st,q,gone n m st.stops,rfl,R.same s1,hq1,R.qK hq,t6 n m (by omega) _ R.apart,Jj _ _ _ R.sin,λz=>?_,λz H2 y R2 kp hy nq=>?_]
  .rw [if_pos z] at h;exact h.no R Rb rfl s1
  .rw [if_neg (by omega)] at h;exact h.ret _ y _ R2 (kp.pre s1) hy w8 nq
 .by_cases z:0<=m/\m<=146096
  .exact bW (Jz (by omega))
  .exact dO z
theorem jx:al ["office","numbers","answer","stretch"] ["office","numbers"] (ah (top 152)):=by ext
noncomputable def vV (c:Cl):Sp:=pz c (λst ns=>step st [13::ns]) (λns=>ns=[])
theorem vW (T:Tx):FO (cf P w) 1 "call_stops" ["office","numbers"] (vV c):=by
 refine T.xF.gX jx (by ext) λ_ _ _ _ _ H vs Q E hr h=>?_;obtain ⟨O,pas,st,p,ns,rfl,R,hp,rfl,h⟩:=h;replace h:Out c O pas H st (step st [[13]]) Q E:=h;rw [Mz] at h;exists (aa (bt 2 jx.nd (aQ (aV (aJ cu (by rfl) T.eQ S0 (aV (aq (pv 0) rfl))))))
  (aa (cp Ta rfl (cb (aq (pv 0) rfl)) (bg (i:=3) jx.nd rfl (by first|exact Tk rfl|exact Tp rfl)) (ac (bA (dG Sr T5 UG tJ (pv 2) (aV (pv 3))))))
  (ac (am (pv 2)))))
 obtain ⟨so,ho,hs,_⟩:=R.obj;obtain ⟨ps,h1,h2⟩:=hs;have hl:=R.Bf;rfl';refine ay ho T.aN T.aK rfl ?_;rfl';rw [w4,h2.length];refine #[by show 1<=sizeLine;decide,λx hx=>?_];have h3:=aj.upd (o:=.lst [.int (st.stops.length:Nat)]) hx _ _ h1;rfl';refine ay (aj.upd hx _ _ ho) T.aN T.aK rfl ?_;rfl';refine bR (xs:=ps.map V.ref) (λi σ' H'=>aj H H'/\H' x=some (.lst (V.int (st.stops.length:Nat)::(vH (st.stops.take i)).map V.int))/\∃v,σ'=[some (.ref O.o),some (.ref p),some (.ref x),v]) #[aj.upd hx,ae,_,rfl] (λi σ' H' _ h=>cB.of (h.1 _ _ h1)) ?_ ?_
 .rintro i y σ' H' hy ⟨s2,hx2,v,rfl⟩;obtain ⟨u,hu,rfl⟩:=fg hy;obtain ⟨w,hw,hR⟩:=h2.get hu;have hlt:i<st.stops.length:=((Sl).mp hw).1;rfl';refine wK hx2 (s2 _ _ hR) ?_ ?_
  .rw [Si,w4,pE,S8];exact T6 (aI (by show _+2<=_;omega))
  .refine #[λb o e=>?_,?_,_,rfl]
   .rw [ai (ak e hx)];exact s2 b o e
   .rw [ae,take_snoc hw,Bj,Sw];rfl
 .rintro σ' H' ⟨s2,hx2,v,rfl⟩;rw [w4,h2.length,SX] at hx2;rfl';refine h.yes R rfl (R.k0.same s2) ?_ ?_ (R.ng hx)
  .rw [hx2];rfl
  .show (vH st.stops).length+1<=1000;rw [pE];omega
theorem jy:al ["office","numbers","first","last"] ["office","numbers"] (ah (top 153)):=by ext
noncomputable def vX (c:Cl):Sp:=pz c (λst ns=>step st [14::ns]) vS
theorem vY (T:Tx):FO (cf P w) 4 "call_still" ["office","numbers"] (vX c):=by
 refine T.xG.gX jy (by ext) λ_ _ _ _ _ H vs Q E hr h=>?_;obtain ⟨O,pas,st,p,ns,rfl,R,hp,⟨n,m,rfl⟩,h⟩:=h;have hp:H p=some (.lst [.int n,.int m]):=hp;replace h:Out c O pas H st (step st [[14,n,m]]) Q E:=h;rw [MA] at h;exists (aa (bt 2 jy.nd (bK (aZ T) hr.m (aV (cR (pv 1) ag))))
  (aa (bt 3 jy.nd (bK (cJ T) hr.m (dH (cR (pv 1) ag) (pv 2) (gI 146096 T.kX rfl))))
  (ac (am (aQ (aV (fW (uf T) hr.m (dH (aq (pv 0) rfl) (pv 2) (pv 3)))))))))
 rfl';refine #[n,rfl,λq1=>?_,λq=>h.no R fU (bo (dO q)) (aj.refl _)];rfl';refine #[m,n,146096,rfl,λq2=>?_,λq=>h.no R fU (bo (bW ?_)) (aj.refl _)]
 .rw [cy (wt q1 (wt (by omega) (decide_eq_true (by omega))))] at h;obtain ⟨n,rfl⟩:=aT q1.1;obtain ⟨m,rfl⟩:=aT q2.1;rw [So,So] at h;obtain ⟨so,ho,hs,_⟩:=R.obj;rfl';refine ay ho T.aN T.aK rfl ?_;rfl';refine #[so,st.stops,n,m,rfl,hs,?_];rfl';refine #[by show 1<=sizeLine;decide,λx hx=>?_];exact h.yes R rfl (R.k0.same (aj.upd hx)) ae w8 (R.ng hx)
 .by_cases z:0<=m/\m<=146096
  .exact bW (decide_eq_false (by omega))
  .exact dO z
end
theorem qL {K:UT} {ta tv:TE} {rd:V->V->Hp->VK->Prop} {f:Str} {D:Ends} {σ:L2.St} {H:Hp} (h:ta σ H λx H1=>∃a C dx fs v,x= .ref a/\H1 a=some (.ins C dx fs)/\kW K C/\aO K C f/\fs.lookup f=some v/\
 tv σ H1 λy H2=>rd v y H2 λz H3=>∃dx' fs',H3 a=some (.ins C dx' fs')/\fs'.length<1000/\D.nx σ (upd H3 a (.ins C dx' (gD f z fs')))):DE K ta tv rd f D σ H:=h
theorem Dn {K:UT} {H:Hp} {f:Str} {p C dx:KE} {fs:List (Str×V)} {v:V} {A:KE->KE->V->Prop} (h:H p=some (.ins C dx fs)) (c:kW K C) (n:aO K C f) (l:fs.lookup f=some v) (q:A p C v):
 ∃a C dx fs v,(V.ref p)= .ref a/\H a=some (.ins C dx fs)/\kW K C/\aO K C f/\fs.lookup f=some v/\A a C v:=#[p,C,dx,fs,v,rfl,h,c,n,l,q]
theorem Do {i j:Int} (h:Q (.int (i+j)) H):Nt (.int i) (.int j) H Q:=#[i,j,rfl,rfl,h]
theorem uF (t:SV) (i j:Nat):vv (S t) (some (i:Int)) (some (j:Int))=S ((t.drop i).take (j - i)):=by
 unfold vv;rw [kJ,eV];have e:∀(d k:Nat),HT.gr t.length d (some (k:Int))=min k t.length:=λd k=>by unfold HT.gr;simp;omega
 rw [e,e];show (⟨_⟩:Str)=⟨_⟩;congr 1;congr 1;apply List.ext_getElem?;intro n;rw [List.getElem?_take,List.getElem?_take,Um,Um];by_cases h:n<j - i
 .rw [if_pos h];by_cases h2:n<min j t.length - min i t.length
  .rw [if_pos h2,show min i t.length+n=i+n by omega]
  .rw [if_neg h2];rw [List.getElem?_eq_none (by omega)]
 .rw [if_neg h,if_neg (by omega)]
structure RD where
 p:KE
 dx:KE
 s:KE
noncomputable def Pj (c:Cl) (r:RD) (t:SV) (i:Nat):HO:=.ins c.aH r.dx [("text",.str (S t)),("at",.int (i:Nat)),("steps",.ref r.s)]
structure ox (c:Cl) (H:Hp) (r:RD) (t:SV) (i:Nat) (l:List OLm.Step):Prop where
 obj:H r.p=some (Pj c r t i)
 st:gl H r.s l
 le:i<=t.length
 asc:ju t
 len:l.length<=i
noncomputable def lm (r:RD) (H H':Hp):Prop:=∀b o,H b=some o->b≠r.p->b≠r.s->H' b=some o
theorem lm.refl:lm r H H:=λ_ _ e _ _=>e
theorem lm.trans (x:lm r H H1) (y:lm r H1 H2):lm r H H2:=λb o e n1 n2=>y b o (x b o e n1 n2) n1 n2
section
variable {H:Hp} {r:RD} {t:SV} {i j:Nat} {l:List OLm.Step}
theorem ox.go (R:ox c H r t i l) (h:i<=j) (h2:j<=t.length):ox c (upd H r.p (Pj c r t j)) r t j l:=by
 obtain ⟨ps,e1,e2⟩:=R.st;refine #[ae,#[ps,?_,e2.imp λp x q=>#[?_,q.2]],h2,R.asc,SA R.len h]
 .rw [ai (aX e1 R.obj nofun)];exact e1
 .rw [ai (aX q.1 R.obj nofun)];exact q.1
theorem lm.go:lm r H (upd H r.p o):=λb u e n _=>by rw [ai n];exact e
theorem ox.push (R:ox c H r t i l) (e1:H r.s=some (.lst (ps.map V.ref))) (e2:cC (Hs H) ps l) (hp:H p=none) (hl:l.length+1<=i) (ok:qG x):
 ox c (upd (upd H p (.tup (l_ x))) r.s (.lst (ps.map V.ref++[.ref p]))) r t i (l++[x]):=by
 have hs:upd H p (.tup (l_ x)) r.s=some (.lst (ps.map V.ref)):=aj.upd hp _ _ e1;have kk:∀{b o},H b=some o->(∀xs,o≠.lst xs)->upd (upd H p (.tup (l_ x))) r.s (.lst (ps.map V.ref++[.ref p])) b=some o:=λ{b o} e n=>by have:=aj.upd (o:=.tup (l_ x)) hp _ _ e;rw [ai (aX this hs (n _))];exact this
 refine #[kk R.obj nofun,#[ps++[p],by rw [ae,Sw];rfl,(e2.imp λb y q=>#[kk q.1 nofun,q.2]).snoc ⟨?_,ok⟩],R.le,R.asc,by rw [Sq];exact hl];rw [ai (λz=>by rw [z,e1] at hp;cases hp)];exact ae
theorem lm.push (hp:H p=none):lm r H (upd (upd H p u) r.s o):=λb v e _ n2=>by rw [ai n2];exact aj.upd hp _ _ e
theorem ox.room (R:ox c H r t i l) (e2:cC (Hs H) ps l):(ps.map V.ref).length<sizeLine:=by rw [w4,e2.length];have:=R.len;have:=R.le;have:=R.asc.1;exact aI (by omega)
end
theorem Bn {t w:SV} {i:Nat} (h:begins w (t.drop i)=true):i+w.length<=t.length\/w=[]:=by
 have:=on h;rw [SQ] at this;cases w with
 |nil=>exact .inr rfl
 |cons a w=>left;rw [Si] at this ⊢;omega
theorem kR {x:Nat}:begins [x] t=true↔∃q,t=x::q:=by
 constructor
 .intro h;exact #[_,(gg h).symm]
 .rintro ⟨q,rfl⟩;simp [begins]
section
theorem jY:al ["self","text"] ["self","text"] (ah (inClass (top 109) 0)):=by ext
noncomputable def uG (c:Cl):Sp:=Fu λ(p dx:KE) (t:SV) vs H Q _=>vs=[.ref p,.str (S t)]/\H p=some (.ins c.aH dx [])/\ju t/\∀H' r,r.p=p->(∀b o,H b=some o->b≠p->H' b=some o)->H r.s=none->ox c H' r t 0 []->Q .bZ H'
theorem uH (T:Tx):KO d8 1 c.aH "LimitReader" ["self","text"] (uG c):=by
 refine T.vj.g T.sO jY (by ext) λ_ _ _ _ s H vs Q E hr h=>?_;obtain ⟨p,dx,t,rfl,hp,ha,k⟩:=h;exists (aa (a9 (pv 0) (pv 1) rfl)
  (aa (a9 (pv 0) ag rfl)
  (ac (a9 (pv 0) (aQ fi) rfl))))
 rfl';refine #[p,_,_,_,rfl,hp,T.au,T.bQ,(by show 0<1000;decide),?_];rfl';refine #[p,_,_,_,rfl,ae,T.au,T.aR,(by show 1<1000;decide),?_];rw [bX];rfl';refine #[SW _,λs hs=>?_];rfl';refine #[p,_,_,_,rfl,aj.upd hs _ _ ae,T.au,T.b8,(by show 2<1000;decide),?_];have hs0:H s=none:=by
  by_cases e:s=p
  .rw [e,ae] at hs;cases hs
  .rwa [ai e] at hs
 refine k _ #[p,dx,s] rfl (λb o e n=>?_) hs0 #[ae,#[[],?_,.nil],SW _,ha,Sf _]
 .rw [ai n,ai (ak e hs0),ai n];exact e
 .rw [ai (λe=>by rw [<-e,hs0] at hp;cases hp)];exact ae
theorem mf:al ["self","word"] ["self","word"] (ah (inClass (top 109) 6)):=by ext
noncomputable def HA (c:Cl):Sp:=Av λ(r:RD) (t:SV) (i:Nat) (l:List OLm.Step) (w:SV) vs H Q _=>vs=[.ref r.p,.str (S w)]/\ox c H r t i l/\w≠[]/\w.length<=800/\
 (begins w (t.drop i)=true->∀H',ox c H' r t (i+w.length) l->lm r H H'->Q (.bl true) H')/\(begins w (t.drop i)=false->Q (.bl false) H)
theorem b_ (T:Tx):MO d8 1 c.aH "takes" ["self","word"] (HA c):=by
 refine T.mO.g T.au mf (by ext) λ_ _ _ _ _ H vs Q E hr h=>?_;obtain ⟨r,t,i,l,w,rfl,R,hw,hl,k1,k2⟩:=h;exists (aa (aL (xJ (c9 (dG PySem.F.plainAttrs_str Up Uo tP (aq (pv 0) rfl) (cz (pv 1) (aq (pv 0) rfl))))) (ac (am kY)) aC)
  (aa (qe (pv 0) (aJ DO (by rfl) T.eQ S0 (aV (pv 1))) Cj)
  (ac (am kY))))
 have ho:=R.obj;rfl';refine ay ho T.au T.bQ rfl ?_;rfl';refine ay ho T.au T.aR rfl ?_;rfl';rw [vJ t w i R.le];cases e:begins w (t.drop i) with
 |false=>rfl';exact k2 e
 |true=>rfl';refine qL ?_;rfl';refine Dn ho T.au T.aR rfl ?_;rfl';refine GI (by rw [eV];exact Hg (by omega)) ?_;rw [eV];refine Do #[_,_,ho,(by show 3<1000;decide),?_];rfl';have:=(Bn e).resolve_right hw;exact k1 e _ (R.go (Nat.le_add_right _ _) this) lm.go
theorem m7:al ["self","sign"] ["self","sign"] (ah (inClass (top 109) 7)):=by ext
noncomputable def JD (c:Cl):Sp:=Av λ(r:RD) (t:SV) (i:Nat) (l:List OLm.Step) (x:Nat) vs H Q E=>vs=[.ref r.p,.str (S [x])]/\ox c H r t i l/\
 (∀q,t.drop i=x::q->∀H',ox c H' r t (i+1) l->lm r H H'->Q .bZ H')/\((∀q,t.drop i≠x::q)->E (.ref c.bp) none H)
theorem g_ (T:Tx):MO (cf P w) 2 c.aH "need" ["self","sign"] (JD c):=by
 refine T.nT.gX T.au m7 (by ext) λ_ _ _ _ _ H vs Q E hr h=>?_;obtain ⟨r,t,i,l,x,rfl,R,k1,k2⟩:=h;exists (ac (aL (xJ (c9 (bJ (pv 0) (b_ T) hr.m bq (aV (pv 1))))) (ac (bw newX rfl rfl T.bu T.bn)) aC));have ho:=R.obj;rfl';refine br ho rfl ?_;rfl';refine #[r,t,i,l,[x],rfl,R,(by simp),(by show 1<=800;decide),λh H1 R1 kp=>?_,λh=>?_]
 .rfl';obtain ⟨q,e⟩:=kR.mp h;exact k1 q e _ R1 kp
 .rfl';refine k2 λq e=>?_;rw [kR.mpr ⟨q,e⟩] at h;cases h
theorem eB:al ["self","begin"] ["self"] (ah (inClass (top 109) 5)):=by ext
noncomputable def uI (c:Cl):Sp:=Au λ(r:RD) (t:SV) (i:Nat) (l:List OLm.Step) vs H Q _=>vs=[.ref r.p]/\ox c H r t i l/\
 ∀H',ox c H' r t (i+((t.drop i).takeWhile SJ).length) l->lm r H H'->Q (.str (S ((t.drop i).takeWhile SJ))) H'
theorem JE (t:SV) (i n:Nat) (h:n<((t.drop i).takeWhile SJ).length):∃x,(t.drop (i+n)).take 1=[x]/\SJ x=true:=by
 have h1:((t.drop i).takeWhile SJ)[n]? =some ((t.drop i).takeWhile SJ)[n]:=Ss h;have h2:=(Th).mp (List.all_takeWhile (l:=t.drop i) (p:=SJ)) _ (List.getElem_mem h);refine #[_,?_,h2];have h3:(t.drop i)[n]? =some ((t.drop i).takeWhile SJ)[n]:=by have j:=d9 SJ (t.drop i);have q:=List.getElem?_append_left (l₂:=(t.drop i).drop ((t.drop i).takeWhile SJ).length) h;rw [j] at q;rw [q];exact h1
 rw [Um] at h3;apply List.ext_getElem?;intro k;rw [List.getElem?_take,Um];cases k with
 |zero=>rw [if_pos (by decide)];exact h3
 |succ k=>rw [if_neg (by omega)];simp
theorem MB (t:SV) (i:Nat):∀x,(t.drop (i+((t.drop i).takeWhile SJ).length)).take 1=[x]->SJ x=false:=by
 intro x h;rw [<-TF] at h;generalize t.drop i=u at h;induction u with
 |nil=>simp at h
 |cons a u ih=>
  rw [List.takeWhile_cons] at h;cases e:SJ a with
  |true=>rw [e] at h;exact ih h
  |false=>rw [e] at h;simp at h;rw [<-h];exact e
theorem iI (T:Tx):MO d8 1 c.aH "take_digits" ["self"] (uI c):=by
 refine T.iK.g T.au eB (by ext) λ_ _ _ _ _ H vs Q E hr h=>?_;obtain ⟨r,t,i,l,rfl,R,k⟩:=h;exists (aa (bt 1 eB.nd (aq (pv 0) rfl))
  (aa (gC Tb (c9 (JX PySem.F.slot_str_isdigit PySem.F.type_str_isdigit tO (cX tG (aq (pv 0) rfl) (cr (aq (pv 0) rfl)) (cr (az aP (aq (pv 0) rfl) ag))))) (ac (qe (pv 0) ag Cj)))
  (ac (am (cX tG (aq (pv 0) rfl) (cr (pv 1)) (cr (aq (pv 0) rfl)))))))
 have ho:=R.obj;rfl';refine ay ho T.au T.aR rfl ?_;rfl';have hz:(S t).length<=sizeLine:=R.asc.sz;generalize hN:((t.drop i).takeWhile SJ).length=N at k;have hNt:i+N<=t.length:=by have:=congrArg T7 (d9 SJ (t.drop i));rw [Sq,hN,SQ,SQ] at this;have:=R.le;omega
 refine lE (λm σ' H'=>∃n,m=N - n/\n<=N/\ox c H' r t (i+n) l/\lm r H H'/\σ'=[some (.ref r.p),some (.int (i:Nat))]) (m0:=N) #[0,rfl,SW _,R,lm.refl,rfl] ?_;rintro m σ' H' ⟨n,rfl,hn,R1,kp,rfl⟩;have ho1:=R1.obj;rfl';refine ay ho1 T.au T.bQ rfl ?_;rfl';refine ay ho1 T.au T.aR rfl ?_;rfl';refine ay ho1 T.au T.aR rfl ?_;rfl';refine Aq hz ?_;rw [show ((i+n:Nat):Int)+1=((i+n+1:Nat):Int) from rfl,uF,show i+n+1 -(i+n)=1 by omega];rfl';have hasc:∀x∈(t.drop (i+n)).take 1,x<128:=λx hx=>R.asc.2 x (List.mem_of_mem_drop (List.mem_of_mem_take hx));rw [wW hasc];by_cases z:n<N
 .obtain ⟨x,e1,e2⟩:=JE t i n (by omega);rw [e1,show (!([x]:SV).isEmpty&&([x]:SV).all SJ)=true by simp [e2]];rw [if_pos rfl];refine #[λσ' H'=>∃n',n'=n+1/\ox c H' r t (i+n') l/\lm r H H'/\σ'=[some (.ref r.p),some (.int (i:Nat))],λσ' H' #[n',e,R2,kp2,e3]=>#[N - n',by omega,n',rfl,by omega,R2,kp2,e3],?_];refine qL ?_;rfl';refine Dn ho1 T.au T.aR rfl ?_;rfl';refine Do #[_,_,ho1,(by show 3<1000;decide),?_];exact #[n+1,rfl,R1.go (j:=i+(n+1)) (by omega) (by omega),kp.trans lm.go,rfl]
 .have en:n=N:=by omega
  subst en;have e:(!((t.drop (i+n)).take 1).isEmpty&&((t.drop (i+n)).take 1).all SJ)=false:=by
   cases e1:(t.drop (i+n)).take 1 with
   |nil=>rfl
   |cons x u=>
    have:u=[]:=by have:=congrArg T7 e1;rw [S8,Si] at this;exact (US).mp (by omega)
    subst this;rw [<-hN] at e1;simp [MB t i x e1]
  rw [e,if_neg (by simp)];rfl';refine ay ho1 T.au T.bQ rfl ?_;rfl';refine ay ho1 T.au T.aR rfl ?_;rfl';refine Aq hz ?_;rw [uF,show i+n - i=n by omega,show (t.drop i).take n=(t.drop i).takeWhile SJ by
   have j:=d9 SJ (t.drop i)
   conv=>lhs;rw [<-j]
   rw [<-hN,List.take_left]]
  exact k _ R1 kp
end
noncomputable def uJ:List SV:=[[100],[119],[109],[121],[111]]
theorem HB:[V.str "d",.str "w",.str "m",.str "y",.str "o"]=uJ.map sS:=by show [V.str (Sj "d"),.str (Sj "w"),.str (Sj "m"),.str (Sj "y"),.str (Sj "o")]=[V.str (S [100]),.str (S [119]),.str (S [109]),.str (S [121]),.str (S [111])];simp only [dm];rfl
theorem JF {x:Nat} (h:unitOf x=some u):uJ.contains [x]=true:=by have:=lP h;subst this;cases u<;>rfl
theorem JG {x:Nat} (h:unitOf x=none):uJ.contains [x]=false:=by
 unfold unitOf at h;cases e:uJ.contains [x] with
 |false=>rfl
 |true=>have:=(TB).mp e;simp only [uJ,Sg,List.cons.injEq,and_true,SI,or_false] at this;rcases this with rfl|rfl|rfl|rfl|rfl<;>exact absurd h (by decide)
theorem HC (u:Unit_):Sj (px u)=S [unitText u]:=by cases u<;>(rw [dm];rfl)
theorem Pk:Sj "o" =S [111]:=by rw [dm];rfl
theorem Bo (ha:r.takeWhile SJ=a):d_ r=match r.drop a.length with
 |x::q=>(match unitOf x,number 1 400 a with
  |some u,some n=>if u= .open_/\20<n then none else some (n,u,q)
  |_,_=>none)
 |[]=>none:=by subst ha;rfl
section
theorem bH:al ["self","digits","unit","most"] ["self"] (ah (inClass (top 109) 4)):=by ext
noncomputable def qM (c:Cl):Sp:=Au λ(r:RD) (t:SV) (i:Nat) (l:List OLm.Step) vs H Q E=>vs=[.ref r.p]/\ox c H r t i l/\
 (∀n u q,d_ (t.drop i)=some (n,u,q)->∀H' j,t.drop j=q->i<j->ox c H' r t j (l++[.plus u n])->lm r H H'->Q .bZ H')/\(d_ (t.drop i)=none->∀H',lm r H H'->E (.ref c.bp) none H')
theorem gZ (T:Tx):MO (cf P w) 2 c.aH "read_addition" ["self"] (qM c):=by
 refine T.ia.gX T.au bH (by ext) λ_ _ A _ _ H vs Q E hr h=>?_;obtain ⟨r,t,i,l,rfl,R,k1,k2⟩:=h;obtain ⟨aU,h_UNITS,hU⟩:=T.HX;exists (aa (bt 1 bH.nd (mE (pv 0) (iI T) hr.m bq))
  (aa (bt 2 bH.nd (cX tG (aq (pv 0) rfl) (cr (aq (pv 0) rfl)) (cr (az aP (aq (pv 0) rfl) ag))))
  (aa (aL (aA oK (pv 2) (gR h_UNITS rfl) rfl) (ac (bw newX rfl rfl T.bu T.bn)) aC)
  (aa (qe (pv 0) ag Cj)
  (aa (bt 3 bH.nd (oH (aA dF (pv 2) bv (aE _)) (gI 20 T.j7 rfl) (gI 400 T.xr rfl)))
  (ac (bA (dG Sr SD SF bD (aq (pv 0) rfl) (aV (gQ (cz (pv 2) (bK (bx T) hr.m (dH (pv 1) ag (pv 3))))))))))))))
 have ho:=R.obj;rfl';refine br ho rfl ?_;rfl';refine #[r,t,i,l,rfl,R,λH1 R1 kp1=>?_];have ho1:=R1.obj;have ha:ju ((t.drop i).takeWhile SJ):=R.asc.sub (by have:=congrArg T7 (d9 SJ (t.drop i));rw [Sq,SQ,SQ] at this;omega) λx hx=>List.mem_of_mem_drop ((List.takeWhile_sublist _).subset hx)
 generalize hA:(t.drop i).takeWhile SJ=A at R1 ho1 ha;rw [Bo hA] at k1 k2;have hle:=R1.le;rfl';refine ay ho1 T.au T.bQ rfl ?_;rfl';refine ay ho1 T.au T.aR rfl ?_;rfl';refine ay ho1 T.au T.aR rfl ?_;rfl';refine Aq R1.asc.sz ?_;rw [show ((i+A.length:Nat):Int)+1=((i+A.length+1:Nat):Int) from rfl,uF,show i+A.length+1 -(i+A.length)=1 by omega];rw [TF] at k1 k2;rfl';have hU1:=hU H1;rw [HB] at hU1;refine GB hU1 rfl (yN _) ?_;rw [Hn];cases eq:t.drop (i+A.length) with
 |nil=>rw [eq] at k2;rfl';exact k2 rfl _ kp1
 |cons x q=>
  rw [eq] at k1 k2;dsimp only at k1 k2;rw [show (x::q).take 1=[x] from rfl];cases eu:unitOf x with
  |none=>rw [JG eu];rw [eu] at k2;rfl';exact k2 rfl _ kp1
  |some u=>
   rw [JF eu];rw [eu] at k1 k2;have hx:=lP eu;subst hx;have hlt:i+A.length+1<=t.length:=by have:=congrArg T7 eq;rw [SQ,Si] at this;omega
   rfl';refine qL ?_;rfl';refine Dn ho1 T.au T.aR rfl ?_;rfl';refine Do #[_,_,ho1,(by show 3<1000;decide),?_];have R2:=R1.go (j:=i+A.length+1) (by omega) hlt;have kp2:lm r H (upd H1 r.p (Pj c r t (i+A.length+1))):=kp1.trans lm.go;show FJ _ _ _ _ (upd H1 r.p (Pj c r t (i+A.length+1)));generalize upd H1 r.p (Pj c r t (i+A.length+1))=H2 at R2 kp2;have ho2:=R2.obj;obtain ⟨ps,e1,e2⟩:=R2.st;have fin:∀hi:Nat,hi=(if u= .open_ then 20 else 400)->Dz (PD K "list" oM (EC K (nU 0) "steps") (fN (F0 (fN (nU 2) (fN (tp (l9 c) [] E (fN (nU 1) (fN (tC (.int 1)) (fN (nU 3) ly)))) ly))) ly)) {nx:=λ_ H'=>Q .bZ H',rt:=Q} [some (.ref r.p),some (.str (S A)),some (.str (S [unitText u])),some (.int (hi:Nat))] H2:=λhi hhi=>by
    rfl';refine ay ho2 T.au T.b8 rfl ?_;rfl';have hhi1:hi<100000:=by rw [hhi];split<;>decide
    refine #[A,1,hi,rfl,ha,λn hn=>?_,λhn=>?_]
    .have hb:=iD hn;have h400:number 1 400 A=some n:=by
      have hd:=(n9 hn);rw [jO (by decide) (by decide)];unfold num at hn ⊢;split at hn
      .rename_i z;cases hn;rw [if_pos ⟨z.1,z.2.1,z.2.2.1,by have:=z.2.2.2;rw [hhi] at this;split at this<;>omega⟩]
      .cases hn
     have hno:¬(u= .open_/\20<n):=λz=>by rw [if_pos z.1] at hhi;omega
     rw [h400] at k1;dsimp only at k1;rw [if_neg hno] at k1;rfl';refine #[by show 2<=sizeLine;decide,λp hp=>?_];refine bN (aj.upd hp _ _ e1) (R2.room e2) ?_;have hst:[V.str (S [unitText u]),.int (n:Nat)]=l_ (.plus u n):=by show _=[V.str (Sj (px u)),.int (n:Nat)];rw [HC]
     rw [hst];have a7:qG (.plus u n):=#[by rw [hhi] at hb;split at hb<;>omega,λz=>by rw [if_pos z] at hhi;omega];refine k1 n u q rfl _ (i+A.length+1) (by rw [<-TF,eq];rfl) (by omega) (R2.push e1 e2 hp (by have:=R.len;omega) a7) (kp2.trans (lm.push hp))
    .refine k2 ?_ _ kp2;cases h4:number 1 400 A with
     |none=>rfl
     |some n=>
      dsimp only;rw [if_pos];have h5:=h4;rw [jO (by decide) (by decide)] at h5;unfold num at h5 hn;split at h5
      .rename_i z;cases h5;split at hn
       .cases hn
       .rename_i y;by_cases hu:u= .open_
        .refine #[hu,Nat.lt_of_not_le λhc=>y #[z.1,z.2.1,z.2.2.1,?_]];rw [hhi,if_pos hu];exact hc
        .exact absurd #[z.1,z.2.1,z.2.2.1,by rw [hhi,if_neg hu];exact z.2.2.2] y
      .cases h5
   rfl';by_cases hu:u= .open_
   .subst hu;rw [if_pos (by rw [Pk];rfl)];exact fin 20 (by rw [if_pos rfl])
   .rw [if_neg (λz=>hu (by rw [Pk] at z;have:=A3 z;cases u<;>simp_all [unitText]))]
    exact fin 400 (by rw [if_neg hu])
noncomputable def pH (c:Cl) (F:Nat):Sp:=Au λ(r:RD) (t:SV) (i:Nat) (l:List OLm.Step) vs H Q E=>vs=[.ref r.p]/\ox c H r t i l/\(t.drop i).length<5*F/\
 (∀e d q,jm F (t.drop i)=some (e,d,q)->∀H' j,t.drop j=q->i<j->ox c H' r t j (l++post e)->lm r H H'->Q (.int (d:Nat)) H')/\(jm F (t.drop i)=none->∀H',lm r H H'->E (.ref c.bp) none H')
noncomputable def Bp (c:Cl) (F:Nat):Sp:=RK λ(r:RD) (t:SV) (i:Nat) (l:List OLm.Step) (w:Str) (b:Bool) (x:OLm.Step) vs H Q E=>vs=[.ref r.p,.str w,.int (if b=true then 1 else 2)]/\ox c H r t i l/\l_ x=[.str w,.int 0]/\qG x/\(t.drop i).length<5*F/\
 (∀m d q,uZ F (t.drop i) b=some (m,d,q)->∀H' j,t.drop j=q->i<j->ox c H' r t j (l++(m++[x]))->lm r H H'->Q (.int (d:Nat)) H')/\(uZ F (t.drop i) b=none->∀H',lm r H H'->E (.ref c.bp) none H')
noncomputable def Ea (c:Cl) (F:Nat):Sp:=Au λ(r:RD) (t:SV) (i:Nat) (l:List OLm.Step) vs H Q E=>vs=[.ref r.p]/\ox c H r t i l/\(t.drop i).length<5*F+5/\
 (∀e d q,zn F (t.drop i)=some (e,d,q)->∀H' j,t.drop j=q->i<j->ox c H' r t j (l++post e)->lm r H H'->Q (.int (d:Nat)) H')/\(zn F (t.drop i)=none->∀H',lm r H H'->E (.ref c.bp) none H')
theorem Rh:Sj "," =S [44]:=by rw [dm];rfl
theorem Ri:Sj ")" =S [41]:=by rw [dm];rfl
theorem Rj:Sj "+" =S [43]:=by rw [dm];rfl
theorem Rk:Sj "start" =S START:=by rw [dm];rfl
theorem bV:al ["self","word","count","deepest","further"] ["self","word","count"] (ah (inClass (top 109) 3)):=by ext
noncomputable def JH {α:Type} (f:SV->α):SV->Option α
 |41::r=>some (f r)
 |_=>none
theorem PR {α:Type} {x:SV->α} (h:∀r,q≠41::r):JH x q=none:=by
 unfold JH;split
 .exact absurd rfl (h _)
 .rfl
theorem HD {F:Nat} {d:Nat} (h:jm F t=some (e,d,q)):uZ F t true=JH (λr=>(post e,d+1,r)) q:=by
 unfold uZ;simp only [h];by_cases z:∃r,q=41::r
 .obtain ⟨r,rfl⟩:=z;rfl
 .rw [PR λr e=>z #[r,e]];split
  .rename_i y;cases y;exact absurd #[_,rfl] z
  .rfl
theorem JI {F:Nat} {b:Bool} (h:jm F t=none):uZ F t b=none:=by cases b<;>(unfold uZ;rw [h])
theorem HE {F:Nat} {da db:Nat} (h:jm F t=some (a,da,44::r)) (g:jm F r=some (b,db,q)):uZ F t false=JH (λq=>(post a++post b,max da db+1,q)) q:=by
 unfold uZ;simp only [h,g];by_cases z:∃r,q=41::r
 .obtain ⟨r,rfl⟩:=z;rfl
 .rw [PR λr e=>z #[r,e]];split
  .rename_i y;cases y;exact absurd #[_,rfl] z
  .rfl
theorem JJ {F:Nat} {da:Nat} (h:jm F t=some (a,da,q)) (g:∀r,q≠44::r):uZ F t false=none:=by
 unfold uZ;simp only [h];split
 .rename_i e;cases e;exact absurd rfl (g _)
 .rfl
theorem JK {F:Nat} {da:Nat} (h:jm F t=some (a,da,44::r)) (g:jm F r=none):uZ F t false=none:=by unfold uZ;simp only [h,g]
theorem qN {t:SV} {j x:Nat} {q:SV} (h:t.drop j=x::q):t.drop (j+1)=q:=by rw [<-TF,h];rfl
theorem HF {t:SV} {i j n:Nat} (h:(t.drop i).length<n) (g:i<=j):(t.drop j).length<n:=by rw [SQ] at h ⊢;omega
theorem HG (T:Tx) (F:Nat) (ih:MO (cf P w) (3*F+3) c.aH "read_whole" ["self"] (pH c F)):MO (cf P w) (3*F+4) c.aH "read_inner" ["self","word","count"] (Bp c F):=by
 refine T.je.EM T.au (λ_ _ _ _ _ _=>M_ λ_ _ _=>rfl) λf fd F'=>F'.M9 bV (λvs H Q E h=>by obtain ⟨r,t,i,l,w,b,x,rfl,_⟩:=h;rfl) (λcdv A outer s H vs Q E hr h=>?_);obtain ⟨r,t,i,l,w,b,x,rfl,R,hx,ok,hF,k1,k2⟩:=h;exists (aa (bt 3 bV.nd (mE (pv 0) (ih) (hr.mono (by omega)) (E:=E) iu))
  (aa (cp Ta rfl (mB rfl T.hX (cz ag (pv 2))) (bg (i:=4) bV.nd rfl (by first|exact Tk rfl|exact Tp rfl)) (aa (bA (bJ (pv 0) (g_ T) (hr.mono (by omega)) (E:=E) iu (aV bv)))
  (ac (bt 3 bV.nd (aJ (ie rfl) (by rfl) T.m9 Tj (cz (pv 3) (mE (pv 0) (ih) (hr.mono (by omega)) (E:=E) iu)))))))
  (aa (bA (bJ (pv 0) (g_ T) (hr.mono (by omega)) (E:=E) iu (aV bv)))
  (aa (bA (dG Sr SD SF bD (aq (pv 0) rfl) (aV (gQ (cz (pv 1) ag)))))
  (ac (am (az aP (pv 3) ag)))))))
 have ho:=R.obj;rfl';refine br ho rfl ?_;rfl';refine #[r,t,i,l,rfl,R,hF,λe d q hq H1 j hj hij R1 kp1=>?_,λhn H1 kp=>k2 (JI hn) _ kp];rfl';refine #[1,_,rfl,by cases b<;>decide,?_];refine kj (λk σ' H'=>∃(j2 D:Nat) (m:List OLm.Step) (v:Option V),σ'=[some (.ref r.p),some (.str w),some (.int (if b=true then 1 else 2)),some (.int (D:Nat)),v]/\ox c H' r t j2 (l++m)/\lm r H H'/\i<j2/\
  (k=((if b=true then (1:Int) else 2)- 1).toNat->(∀q,t.drop j2=41::q->uZ F (t.drop i) b=some (m,D+1,q))/\((∀q,t.drop j2≠41::q)->uZ F (t.drop i) b=none))/\(k<((if b=true then (1:Int) else 2)- 1).toNat->m=post e/\d=D/\j=j2)) ?_ ?_ ?_
 .refine #[j,d,post e,none,rfl,R1,kp1,hij,λhk=>?_,λ_=>#[rfl,rfl,rfl]];cases b with
  |false=>exact absurd hk (by decide)
  |true=>exact #[λr hr=>by rw [HD hq,<-hj,hr];rfl,λhr=>by rw [HD hq,<-hj,PR hr]]
 .rintro k σ' H' hk ⟨j2,D,m,v,rfl,R2,kp2,hij2,-,h2⟩;obtain ⟨rfl,rfl,rfl⟩:=h2 hk;have hb:b=false:=by
   cases b with
   |false=>rfl
   |true=>exact absurd hk (by simp)
  subst hb;have hk0:k=0:=by have:k<1:=hk;omega
  subst hk0;have ho2:=R2.obj;rfl';refine br ho2 rfl ?_;rfl';refine #[r,t,j,l++post e,44,by rw [Rh],R2,λq1 hq1 H3 R3 kp3=>?_,λhn=>k2 (JJ hq λr hr=>hn r (hj.trans hr)) _ kp2];have ho3:=R3.obj;have hq2:jm F (t.drop i)=some (e,d,44::t.drop (j+1)):=by rw [hq,<-hj,qN hq1,hq1]
  rfl';refine br ho3 rfl ?_;rfl';refine #[r,t,j+1,l++post e,rfl,R3,HF hF (by omega),λe2 d2 q3 hq3 H4 j4 hj4 hij4 R4 kp4=>?_,λhn H4 kp4=>k2 (JK hq2 hn) _ ((kp2.trans kp3).trans kp4)];rfl';rw [uE];refine #[j4,max d d2,post e++post e2,_,rfl,by rw [<-Tq];exact R4,(kp2.trans kp3).trans kp4,by omega,λ_=>#[λq5 hq5=>?_,λhq5=>?_],λh=>absurd h (by decide)]
  .rw [HE hq2 hq3,<-hj4,hq5];rfl
  .rw [HE hq2 hq3,<-hj4,PR hq5]
 .rintro σ' H' ⟨j2,D,m,v,rfl,R2,kp2,hij2,h1,-⟩;obtain ⟨h1,h2⟩:=h1 rfl;have ho2:=R2.obj;rfl';refine br ho2 rfl ?_;rfl';refine #[r,t,j2,l++m,41,by rw [Ri],R2,λq1 hq1 H3 R3 kp3=>?_,λhn=>k2 (h2 hn) _ kp2];have ho3:=R3.obj;obtain ⟨ps,e1,e2⟩:=R3.st;rfl';refine ay ho3 T.au T.b8 rfl ?_;rfl';refine #[by show 2<=sizeLine;decide,λp hp=>?_];rfl';refine bN (aj.upd hp _ _ e1) (R3.room e2) ?_;rw [<-hx];have R4:=R3.push e1 e2 hp (by have:=R2.len;omega) ok;rfl';have:=k1 m (D+1) q1 (h1 q1 hq1) _ (j2+1) (qN hq1) (by omega) (by rw [<-Tq];exact R4) ((kp2.trans kp3).trans (lm.push hp));exact this
theorem dc:al ["self","word"] ["self"] (ah (inClass (top 109) 2)):=by ext
theorem MC:[V.str "receipt",.str "open",.str "back",.str "month",.str "going"]=ones.map λf=>V.str (Sj (mK f)):=rfl
theorem Pl (f:One):Sj (mK f)++Sj "(" =S (oneText f):=by rw [dm,dm];cases f<;>rfl
theorem y_ (f:One):5<=(oneText f).length/\(oneText f).length<=800:=by cases f<;>decide
noncomputable def sD (b:Bool):String:=if b then "later" else "earlier"
theorem ME:[V.str "later",.str "earlier"]=CV.map λf=>V.str (Sj (sD f)):=rfl
theorem Pn (f:Bool):Sj (sD f)++Sj "(" =S (eM f):=by rw [dm,dm];cases f<;>rfl
theorem za (f:Bool):6<=(eM f).length/\(eM f).length<=800:=by cases f<;>decide
theorem MF (f:One):(Sj (mK f)).length+(Sj "(").length<=sizeLine:=by rw [dm,dm,eV,eV];cases f<;>decide
theorem MG (f:Bool):(Sj (sD f)).length+(Sj "(").length<=sizeLine:=by rw [dm,dm,eV,eV];cases f<;>decide
theorem JL (T:Tx) (F:Nat) (ih:MO (cf P w) (3*F+4) c.aH "read_inner" ["self","word","count"] (Bp c F)):MO (cf P w) (3*F+5) c.aH "read_base" ["self"] (Ea c F):=by
 refine T.jG.EM T.au (λ_ _ _ _ _ _=>IR λ_=>rfl) λf fd F'=>F'.M9 dc (λvs H Q E h=>by obtain ⟨r,t,i,l,rfl,_⟩:=h;rfl) (λcdv A outer s H vs Q E hr h=>?_);obtain ⟨r,t,i,l,rfl,R,hF,k1,k2⟩:=h;obtain ⟨a1,h_WITH_ONE,hO⟩:=T.B3;obtain ⟨a2,h_WITH_TWO,hT⟩:=T.B4;exists (aa (aL (c9 (bJ (pv 0) (b_ T) (hr.mono (by omega)) bq (aV bv))) (aa (bA (dG Sr SD SF bD (aq (pv 0) rfl) (aV (gQ (cz bv ag)))))
  (ac (am ag))) aC)
  (aa (cp Ta rfl (FP (gR h_WITH_ONE rfl)) (bg (i:=1) dc.nd rfl (by first|exact Tk rfl|exact Tp rfl)) (ac (aL (c9 (bJ (pv 0) (b_ T) (hr.mono (by omega)) bq (aV (az DN (pv 1) bv)))) (ac (am (bJ (pv 0) (ih) (hr.mono (by omega)) (E:=E) iu (cz (pv 1) ag)))) aC)))
  (aa (cp Ta rfl (FP (gR h_WITH_TWO rfl)) (bg (i:=1) dc.nd rfl (by first|exact Tk rfl|exact Tp rfl)) (ac (aL (c9 (bJ (pv 0) (b_ T) (hr.mono (by omega)) bq (aV (az DN (pv 1) bv)))) (ac (am (bJ (pv 0) (ih) (hr.mono (by omega)) (E:=E) iu (cz (pv 1) ag)))) aC)))
  (ac (bw newX rfl rfl T.bu T.bn)))))
 have ho:=R.obj;rfl';refine br ho rfl ?_;rfl';refine #[r,t,i,l,START,by rw [Rk],R,by decide,by decide,λhb H1 R1 kp1=>?_,λhb=>?_]
 .have ho1:=R1.obj;obtain ⟨ps,e1,e2⟩:=R1.st;rfl';refine ay ho1 T.au T.b8 rfl ?_;rfl';refine #[by show 2<=sizeLine;decide,λp hp=>?_];rfl';refine bN (aj.upd hp _ _ e1) (R1.room e2) ?_;have R2:=R1.push (x:=.start) e1 e2 hp (by have:=R.len;have:START.length=5:=(by decide);omega) trivial;rfl';exact k1 .start 1 _ (EW hb) _ (i+5) (by rw [TF]) (by omega) R2 (kp1.trans (lm.push hp))
 .rfl';refine DR (hO H) ?_;rw [MC] at hO;refine A5 (xs:=ones.map λf=>V.str (Sj (mK f))) (λk σ' H'=>H'=H/\(∀g∈ones.take k,begins (oneText g) (t.drop i)=false)/\∃v,σ'=[some (.ref r.p),v]) #[rfl,(by simp),_,rfl] (λk σ' H' _ _=>hO H') ?_ ?_
  .rintro k y σ' H' hy ⟨rfl,hno,v,rfl⟩;obtain ⟨f,hf,rfl⟩:=ee hy;rfl';refine br ho rfl ?_;rfl';refine GH (MF f) ?_;rw [Pl];rfl';refine #[r,t,i,l,oneText f,rfl,R,λz=>by have:=y_ f;rw [z] at this;simp at this,(y_ f).2,λhb1 H1 R1 kp1=>?_,λhb1=>?_]
   .have ho1:=R1.obj;have hl:=(y_ f).1;rfl';refine br ho1 rfl ?_;rfl';have hfd:=G6 hf hno hb1;refine #[r,t,i+(oneText f).length,l,_,true,.one f,rfl,R1,rfl,trivial,?_,λm d q hm H2 j hj hij R2 kp2=>?_,λhm H2 kp2=>k2 (Hd hb hfd (by rw [TF];exact hm)) _ (kp1.trans kp2)]
    .rw [SQ] at hF ⊢;have:=R1.le;omega
    .obtain ⟨e',d',hr,rfl,rfl⟩:=AK hm;exact k1 (.one f e') _ _ (G_ hb hfd (by rw [TF];exact hr)) _ j hj (by omega) R2 (kp1.trans kp2)
   .rfl';refine #[rfl,λg hg=>?_,_,rfl];rw [take_snoc hf] at hg;rcases (SU).mp hg with hg|hg
    .exact hno g hg
    .rw [(SB).mp hg];exact hb1
  .rintro σ' H' ⟨rfl,hno,v,rfl⟩;rw [w4,SX] at hno;have e1:=G7 hno;rfl';refine DR (hT H') ?_;rw [ME] at hT;refine A5 (xs:=CV.map λf=>V.str (Sj (sD f))) (λk σ' H2=>H2=H'/\(∀g∈CV.take k,begins (eM g) (t.drop i)=false)/\∃v,σ'=[some (.ref r.p),v]) #[rfl,(by simp),_,rfl] (λk σ' H' _ _=>hT H') ?_ ?_
   .rintro k y σ' H2 hy ⟨rfl,hno2,v,rfl⟩;obtain ⟨f,hf,rfl⟩:=ee hy;rfl';refine br ho rfl ?_;rfl';refine GH (MG f) ?_;rw [Pn];rfl';refine #[r,t,i,l,eM f,rfl,R,λz=>by have:=za f;rw [z] at this;simp at this,(za f).2,λhb1 H1 R1 kp1=>?_,λhb1=>?_]
    .have ho1:=R1.obj;have hl:=(za f).1;rfl';refine br ho1 rfl ?_;rfl';have hfd:=two_find hf hno2 hb1;refine #[r,t,i+(eM f).length,l,_,false,if f=true then .later else .dA,rfl,R1,by cases f<;>rfl,by cases f<;>trivial,?_,λm d q hm H3 j hj hij R2 kp2=>?_,λhm H3 kp2=>k2 (Hb hb e1 hfd (by rw [TF];exact hm)) _ (kp1.trans kp2)]
     .rw [SQ] at hF ⊢;have:=R1.le;omega
     .obtain ⟨a',da',r',b',db',hr,hr2,rfl,rfl⟩:=AL hm;exact k1 (.two f a' b') _ _ (Ha hb e1 hfd (by rw [TF];exact hr) hr2) _ j hj (by omega) (by show ox c H3 r t j (l++(post a'++(post b'++[if f=true then .later else .dA])));rw [<-Tq (post a')];exact R2) (kp1.trans kp2)
    .rfl';refine #[rfl,λg hg=>?_,_,rfl];rw [take_snoc hf] at hg;rcases (SU).mp hg with hg|hg
     .exact hno2 g hg
     .rw [(SB).mp hg];exact hb1
   .rintro σ' H2 ⟨rfl,hno2,v,rfl⟩;rw [w4,SX] at hno2;rfl';exact k2 (G9 hb e1 (G8 hno2)) _ lm.refl
theorem cS:al ["self","deep"] ["self"] (ah (inClass (top 109) 1)):=by ext
theorem Fe (T:Tx) (F:Nat) (ih:MO (cf P w) (3*F+5) c.aH "read_base" ["self"] (Ea c F)):MO (cf P w) (3*(F+1)+3) c.aH "read_whole" ["self"] (pH c (F+1)):=by
 refine T.eX.EM T.au (λ_ _ _ _ _ _=>IR λ_=>rfl) λf fd F'=>F'.M9 cS (λvs H Q E h=>by obtain ⟨r,t,i,l,rfl,_⟩:=h;rfl) (λcdv A outer s H vs Q E hr h=>?_);obtain ⟨r,t,i,l,rfl,R,hF,k1,k2⟩:=h;rw [Jl] at k1 k2;exists (aa (bt 1 cS.nd (mE (pv 0) (ih) (hr.mono (by omega)) (E:=E) iu))
  (aa (gC Ta (c9 (bJ (pv 0) (b_ T) (hr.mono (by omega)) bq (aV bv))) (ac (bA (mE (pv 0) (gZ T) (hr.mono (by omega)) (E:=E) iu))))
  (ac (am (pv 1)))))
 have ho:=R.obj;rfl';refine br ho rfl ?_;rfl';refine #[r,t,i,l,rfl,R,by omega,λe d q hq H1 j hj hij R1 kp1=>?_,λhn H1 kp=>k2 (by rw [hn];rfl) _ kp];rw [hq,<-hj] at k1 k2;rfl';refine lE (λm σ' H'=>∃e' j',m=t.length - j'/\i<j'/\ox c H' r t j' (l++post e')/\lm r H H'/\tl e (t.drop j)=tl e' (t.drop j')/\σ'=[some (.ref r.p),some (.int (d:Nat))]) (m0:=t.length - j) #[e,j,rfl,hij,R1,kp1,rfl,rfl] ?_;rintro m σ' H' ⟨e',j',rfl,hij',R2,kp2,et,rfl⟩;have ho2:=R2.obj;rfl';refine br ho2 rfl ?_;rfl';refine #[r,t,j',l++post e',[43],by rw [Rj],R2,(by simp),(by show 1<=800;decide),λhb H3 R3 kp3=>?_,λhb=>?_]
 .obtain ⟨q1,hq1⟩:=kR.mp hb;have ho3:=R3.obj;have hle:=R3.le;rw [hq1,Jm,<-qN hq1] at et;rfl';refine #[λσ' H'=>∃e'' j'',j'<j''/\ox c H' r t j'' (l++post e'')/\lm r H H'/\tl e (t.drop j)=tl e'' (t.drop j'')/\σ'=[some (.ref r.p),some (.int (d:Nat))],λσ' H' #[e'',j'',h1,h2,h3,h4,h5]=>#[t.length - j'',by have:j'+[43].length=j'+1:=rfl;omega,e'',j'',rfl,by omega,h2,h3,h4,h5],?_];rfl';refine br ho3 rfl ?_;rfl';refine #[r,t,j'+1,l++post e',rfl,R3,λn u q3 hq3 H4 j4 hj4 hij4 R4 kp4=>?_,λhn H4 kp4=>k2 ?_ _ ((kp2.trans kp3).trans kp4)]
  .rw [hq3] at et;refine #[.plus e' n u,j4,by omega,by show ox c H4 r t j4 (l++(post e'++[.plus u n]));rw [<-Tq];exact R4,(kp2.trans kp3).trans kp4,by rw [et,hj4],rfl]
  .rw [hn] at et;show (tl e (t.drop j)).map _=none;rw [et];rfl
 .have hne:∀r,t.drop j'≠43::r:=λr z=>by rw [kR.mpr ⟨r,z⟩] at hb;cases hb
  rw [Jn _ _ hne] at et;rfl';exact k1 e' d _ (by show (tl e (t.drop j)).map _=_;rw [et];rfl) _ j' rfl hij' R2 kp2
theorem Ff (T:Tx):MO (cf P w) 3 c.aH "read_whole" ["self"] (pH c 0):=by refine T.eX.EM T.au (λ_ _ _ _ _ _=>IR λ_=>rfl) λf fd F'=>F'.M9 cS (λvs H Q E h=>by obtain ⟨r,t,i,l,rfl,_⟩:=h;rfl) (λcdv A outer s H vs Q E hr h=>?_);obtain ⟨r,t,i,l,rfl,R,hF,k1,k2⟩:=h;exact absurd hF (by omega)
theorem Bq (T:Tx):∀F,MO (cf P w) (3*F+3) c.aH "read_whole" ["self"] (pH c F)
 |0=>Ff T
 |F+1=>Fe T F (JL T F (HG T F (Bq T F)))
theorem gK:∀e:Limit,AllIn (shownLimit e)
 | .start=>by show AllIn START;unfold AllIn;decide
 | .plus e n u=>(gK e).app (.cons (by decide) ((dC n).app (.cons (by cases u<;>decide) .nil)))
 | .one f e=>AllIn.app (by unfold AllIn;cases f<;>decide) ((gK e).app (.cons (by decide) .nil))
 | .two l a b=>AllIn.app (by unfold AllIn;cases l<;>decide) ((gK a).app (.cons (by decide) ((gK b).app (.cons (by decide) .nil))))
theorem Dq {t:SV} (h:¬∀c∈t,c∈SG):limitOf t=none:=by
 cases e:limitOf t with
 |none=>rfl
 |some k=>have:=nF e;rw [<-this] at h;exact absurd (gK k) h
theorem jz:al ["codes","reader","deep"] ["codes"] (ah (top 108)):=by ext
noncomputable def vZ (c:Cl):Sp:=Jf λ(p:KE) (t:SV) vs H Q E=>vs=[.ref p]/\H p=some (.lst (t.map nI))/\t.length<=100/\
 (∀e,limitOf t=some e->∀H' s,aj H H'->H s=none->gl H' s (post e)->Q (.ref s) H')/\(limitOf t=none->∀H',aj H H'->E (.ref c.bp) none H')
theorem v9 (T:Tx):FO (cf P w) 67 "read_limit" ["codes"] (vZ c):=by
 refine T.xt.gX jz (by ext) λ_ _ _ _ _ H vs Q E hr h=>?_;obtain ⟨p,t,rfl,hp,hl,k1,k2⟩:=h;exists (aa (bt 1 jz.nd (gF (uH T) hr.m rfl bq (aV (bK (uh T) hr.m (aV (pv 0))))))
  (aa (bt 2 jz.nd (mE (pv 1) (Bq T 21) hr.m (E:=E) iu))
  (aa (aL (PW.pt (nh (aA iP (pv 2) (gI 12 T.Ek rfl) (aE _)) (jf (aA sZ (aq (pv 1) rfl) (aJ DO (by rfl) T.eQ S0 (aV (aq (pv 1) rfl))) (aE _))))) (ac (bw newX rfl rfl T.bu T.bn)) aC)
  (ac (am (aq (pv 1) rfl))))))
 rfl';refine #[p,t,rfl,hp,by omega,λH1 s1 hin=>?_,λH1 s1 hin=>k2 (Dq hin) _ s1];have ha:ju t:=#[by omega,λx hx=>Kc x (hin x hx)];rw [re 21 (by decide)] at k1 k2;rfl';intro x dx hx hdx hne;refine #[x,dx,t,rfl,ae,ha,λH2 r hrp kp hrs R=>#[rfl,?_]];subst hrp;have s2:aj H1 H2:=aj.made hx hdx kp;have hs0:H1 r.s=none:=by
  by_cases e:r.s=r.p
  .rw [e];exact hx
  .rw [ai e] at hrs;by_cases e2:r.s=dx
   .rw [e2];exact hdx
   .rwa [ai e2] at hrs
 have sk:∀{H3},lm r H2 H3->aj H H3:=λ{H3} kp3 b o e=>kp3 b o (s2 b o (s1 b o e)) (ak (s1 b o e) hx) (ak (s1 b o e) hs0);have ho:=R.obj;rfl';refine br ho rfl ?_;rfl';refine #[r,t,0,[],rfl,R,by rw [List.drop_zero];omega,λe d q hq H3 j hj hij R3 kp3=>?_,λhn H3 kp3=>k2 (by rw [List.drop_zero] at hn;rw [hn]) _ (sk kp3)];rw [List.drop_zero] at hq;rw [hq] at k1 k2;have ho3:=R3.obj;rfl';by_cases c1:(12:Int)<(d:Nat)
 .rw [if_pos c1];rfl';refine k2 ?_ _ (sk kp3);cases q with
  |nil=>exact if_neg (by omega)
  |cons _ _=>rfl
 .rw [if_neg c1];rfl';refine ay ho3 T.au T.aR rfl ?_;rfl';refine ay ho3 T.au T.bQ rfl ?_;rfl';refine GI ha.sz ?_;rw [eV];rfl';by_cases c2:((j:Nat):Int)<(t.length:Nat)
  .rw [if_pos c2];rfl';refine k2 ?_ _ (sk kp3);cases q with
   |nil=>have:=congrArg T7 hj;rw [SQ] at this;simp at this;omega
   |cons _ _=>rfl
  .rw [if_neg c2];have:q=[]:=by rw [<-hj];exact List.drop_of_length_le (by omega)
   subst this;rfl';refine ay ho3 T.au T.b8 rfl ?_;exact k1 e (if_pos (by omega)) _ _ (sk kp3) (s1.free hs0) R3.st
end
noncomputable abbrev Kg:List (Key×V):=[(.inr "d",.int 1),(.inr "w",.int 7)]
noncomputable abbrev Eb:List (Key×V):=[(.inr "m",.int 1),(.inr "y",.int 12)]
theorem MH (x:Land) (d:Nat) {s:OLm.Step} {w:Str} {n:Nat} (h:l_ s=[.str w,.int (n:Nat)]) (hs:PN s=true) (ok:qG s):
 (∃k:Nat,aY Kg (.inr w)=some (.int (k:Nat))/\k<=7/\Fv x s d=some (d+k*n))\/(aY Kg (.inr w)=none/\((∃k:Nat,aY Eb (.inr w)=some (.int (k:Nat))/\k<=12/\Fv x s d=some (addMonths d (k*n)))\/(aY Eb (.inr w)=none/\((w=Sj "o" /\n<=20/\Fv x s d=some (kthOpen x.calendar n d))\/(w≠Sj "o" /\((w=Sj "receipt" /\Fv x s d=some (d+x.post))\/(w≠Sj "receipt" /\((w=Sj "open" /\Fv x s d=some (nextOpen x.calendar d))\/(w≠Sj "open" /\((w=Sj "back" /\Fv x s d=lastOpen x.calendar d)\/(w≠Sj "back" /\(Fv x s d=some (monthEnd d))))))))))))):=by
 cases s with
 |start=>cases hs
 |later=>cases hs
 |dA=>cases hs
 |plus u m=>
  have h:[V.str (Sj (px u)),V.int (m:Nat)]=[.str w,.int (n:Nat)]:=h;simp only [List.cons.injEq,V.str.injEq,V.int.injEq,and_true] at h;obtain ⟨rfl,h⟩:=h;have h:m=n:=by omega
  subst h;cases u with
  |day=>exact .inl #[1,rfl,by decide,by show some (d+m)=_;rw [Nat.one_mul]]
  |week=>exact .inl #[7,rfl,by decide,rfl]
  |month=>exact .inr #[rfl,.inl #[1,rfl,by decide,by show some (addMonths d m)=_;rw [Nat.one_mul]]]
  |year=>exact .inr #[rfl,.inl #[12,rfl,by decide,rfl]]
  |open_=>exact .inr #[rfl,.inr #[rfl,.inl #[rfl,ok.2 rfl,rfl]]]
 |one f=>
  have h:[V.str (Sj (mK f)),V.int 0]=[.str w,.int (n:Nat)]:=h;simp only [List.cons.injEq,V.str.injEq,V.int.injEq,and_true] at h;obtain ⟨rfl,h⟩:=h;cases f with
  |going=>cases hs
  |receipt=>exact .inr #[rfl,.inr #[rfl,.inr #[by decide,.inl ⟨rfl,rfl⟩]]]
  |open_=>exact .inr #[rfl,.inr #[rfl,.inr #[by decide,.inr ⟨by decide,.inl ⟨rfl,rfl⟩⟩]]]
  |back=>exact .inr #[rfl,.inr #[rfl,.inr #[by decide,.inr ⟨by decide,.inr ⟨by decide,.inl ⟨rfl,rfl⟩⟩⟩]]]
  |month=>exact .inr #[rfl,.inr #[rfl,.inr #[by decide,.inr ⟨by decide,.inr ⟨by decide,.inr ⟨by decide,rfl⟩⟩⟩]]]
section
theorem i9:al ["day","land","found"] ["day","land"] (ah (top 50)):=by ext
noncomputable def pI (c:Cl):Sp:=J9 λ(M:KE->Prop) (la a:KE) (A:CA) (x:Land) (d:Nat) vs H Q E=>vs=[.int (d:Nat),.ref la]/\iG c H la a x/\bz c M H a A x.calendar/\d<=LAST/\
 (∀m,lastOpen x.calendar d=some m->∀H',bz c M H' a A x.calendar->jW A H H'->Q (.int (m:Nat)) H')/\(lastOpen x.calendar d=none->∀H',bz c M H' a A x.calendar->jW A H H'->E (.ref c.ln) none H')
theorem pJ (T:Tx):FO (cf P w) 12 "open_day_up_to" ["day","land"] (pI c):=by
 refine T.pS.gX i9 (by ext) λ_ _ _ _ _ H vs Q E hr h=>?_;obtain ⟨M,la,a,A',x,d,rfl,hL,C,hd,k1,k2⟩:=h;exists (aa (bt 2 i9.nd (bJ (aq (pv 1) rfl) (eU T) hr.m bq (aV (pv 0))))
  (aa (aL (aA qt (pv 2) dv (aE _)) (ac (bw newX rfl rfl T.oz T.jD)) aC)
  (ac (am (pv 2)))))
 obtain ⟨dx,t,hl,ht⟩:=hL;unfold LAST at hd;rfl';refine ay hl T.cn T.bi rfl ?_;rfl';refine br C.obj rfl ?_;rfl';refine #[M,a,A',_,d,rfl,C,by omega,λH1 C1 kp1=>?_];cases hc:lastOpen x.calendar d with
 |none=>show kZ _ .bZ _ _ _;rfl';exact k2 hc _ C1 kp1
 |some m=>show kZ _ (.int (m:Nat)) _ _ _;rfl';exact k1 m hc _ C1 kp1
theorem JM {A:Key->Prop} (q:A (.inr z)):∃k,V.str z=kV k/\A k:=#[.inr z,rfl,q]
theorem uK {i j:Nat} (h:i<=12):FT (i:Int) (j:Int):=.inl #[by omega,by omega]
theorem Br:al ["day","word","number","land"] ["day","word","number","land"] (ah (top 49)):=by ext
noncomputable def Bs (c:Cl):Sp:=Q4 λ(M:KE->Prop) (la a:KE) (A:CA) (x:Land) (d n:Nat) (s:OLm.Step) (w:Str) vs H Q E=>vs=[.int (d:Nat),.str w,.int (n:Nat),.ref la]/\l_ s=[.str w,.int (n:Nat)]/\PN s=true/\qG s/\iG c H la a x/\bz c M H a A x.calendar/\d<=LAST/\
 (∀m,Fv x s d=some m->∀H',bz c M H' a A x.calendar->jW A H H'->Q (.int (m:Nat)) H')/\(Fv x s d=none->∀H',bz c M H' a A x.calendar->jW A H H'->E (.ref c.ln) none H')
theorem Bt (T:Tx):FO (cf P w) 13 "moved_on" ["day","word","number","land"] (Bs c):=by
 refine T.BU.gX Br (by ext) λ_ _ _ _ _ H vs Q E hr h=>?_;obtain ⟨M,la,a,A',x,d,n,s0,w0,rfl,hw,hs,a7,hL,C,hd,k1,k2⟩:=h;obtain ⟨aD,h_DAYS_OF_UNIT,fb⟩:=T.fb;obtain ⟨aM,h_MONTHS_OF_UNIT,dP⟩:=T.dP;exists (aa (aL (fh (qp fb (gR h_DAYS_OF_UNIT rfl) (pv 1)) rfl) (ac (am (az aP (pv 0) (az ip (km fb (gR h_DAYS_OF_UNIT rfl) (pv 1) (λ_ _=>rfl)) (pv 2))))) aC)
  (aa (aL (fh (qp dP (gR h_MONTHS_OF_UNIT rfl) (pv 1)) rfl) (ac (am (fW (k_ T) hr.m (cz (pv 0) (az ip (km dP (gR h_MONTHS_OF_UNIT rfl) (pv 1) (λ_ _=>rfl)) (pv 2)))))) aC)
  (aa (aL (aA dF (pv 1) bv (aE _)) (ac (am (bJ (aq (pv 3) rfl) (e_ T) hr.m bq (cz (pv 0) (pv 2))))) aC)
  (aa (aL (aA dF (pv 1) bv (aE _)) (ac (am (az aP (pv 0) (aq (pv 3) rfl)))) aC)
  (aa (aL (aA dF (pv 1) bv (aE _)) (ac (am (bJ (aq (pv 3) rfl) (cM T) hr.m bq (aV (pv 0))))) aC)
  (aa (aL (aA dF (pv 1) bv (aE _)) (ac (am (bK (pJ T) hr.m (cz (pv 0) (pv 3))))) aC)
  (ac (am (fW (yB T) hr.m (aV (pv 0)))))))))))
 obtain ⟨dx,t,hl,ht⟩:=id hL;have hd2:d<=182621:=hd;rfl';rcases MH x d hw hs a7 with ⟨k,e1,e2,e3⟩|⟨e1,hc⟩
 .refine JM ?_;rw [e1];rfl';refine DP e1 ?_;rfl';refine IL (uK (SA e2 (by decide))) ?_;rfl';exact k1 (d+k*n) e3 _ C (jW.of (aj.refl _))
 refine JM ?_;rw [e1];rfl';rcases hc with ⟨k,e1,e2,e3⟩|⟨e1,hc⟩
 .refine JM ?_;rw [e1];rfl';refine DP e1 ?_;rfl';refine IL (uK e2) ?_;rfl';refine #[d,k*n,rfl,λp hp=>?_];exact k1 _ e3 _ (C.same (aj.upd hp)) (jW.of (aj.upd hp))
 refine JM ?_;rw [e1];rfl';rcases hc with ⟨e1,e2,e3⟩|⟨e1,hc⟩
 .rw [if_pos e1];rfl';refine ay hl T.cn T.bi rfl ?_;rfl';refine br C.obj rfl ?_;rfl';exact #[M,a,A',_,d,n,rfl,C,by omega,by omega,λH1 C1 kp1=>k1 _ e3 _ C1 kp1]
 rw [if_neg e1];rfl';rcases hc with ⟨e1,e3⟩|⟨e1,hc⟩
 .rw [if_pos e1];rfl';refine ay hl T.cn T.j6 rfl ?_;rfl';exact k1 (d+x.post) e3 _ C (jW.of (aj.refl _))
 rw [if_neg e1];rfl';rcases hc with ⟨e1,e3⟩|⟨e1,hc⟩
 .rw [if_pos e1];rfl';refine ay hl T.cn T.bi rfl ?_;rfl';refine br C.obj rfl ?_;rfl';exact #[M,a,A',_,d,rfl,C,by omega,λH1 C1 kp1=>k1 _ e3 _ C1 kp1]
 rw [if_neg e1];rfl';rcases hc with ⟨e1,e3⟩|⟨e1,e3⟩
 .rw [if_pos e1];rfl';exact #[M,la,a,A',x,d,rfl,hL,C,hd,λm hm H1 C1 kp1=>k1 m (by rw [e3,hm]) _ C1 kp1,λhm H1 C1 kp1=>k2 (by rw [e3,hm]) _ C1 kp1]
 rw [if_neg e1];rfl';exact #[d,rfl,λp hp=>k1 _ e3 _ (C.same (aj.upd hp)) (jW.of (aj.upd hp))]
structure MI (c:Cl) (M:KE->Prop) (H:Hp) (sa sb la a:KE) (A:CA) (x:Land) (e:Limit) (l:List (Nat×Nat)) (s:Nat):Prop where
 st:gl H sa (post e)
 len:(post e).length<=100
 str:kF H sb l
 apart:Apart l
 le:s<=LAST
 land:iG c H la a x
 ll:bz c M H a A x.calendar
noncomputable def HH (st:List Nat):HO:=.lst (st.reverse.map nI)
theorem fC (p:Nat) (st:List Nat):HH (p::st)= .lst (st.reverse.map nI++[nI p]):=by unfold HH;rw [List.reverse_cons,Sw];rfl
structure Kh (c:Cl) (M:KE->Prop) (H H':Hp) (D a:KE) (A:CA) (x:Land) (st:List Nat):Prop where
 at_:H' D=some (HH st)
 le:∀y∈st,y<=LAST
 ll:bz c M H' a A x.calendar
 kp:jW A H H'
section
variable {M:KE->Prop} {H H' H2:Hp} {D a:KE} {A:CA} {x:Land} {st:List Nat}
theorem Kh.put (S:Kh c M H H' D a A x st) (h0:H D=none) (hf:D≠A.f) {st':List Nat} (hl:∀y∈st',y<=LAST):Kh c M H (upd H' D (HH st')) D a A x st':=
 #[ae,hl,S.ll.other S.at_ hf,λb o e n1 n2=>by rw [ai (ak e h0)];exact S.kp b o e n1 n2]
theorem Kh.move (S:Kh c M H H' D a A x st) (C:bz c M H2 a A x.calendar) (k:jW A H' H2):Kh c M H H2 D a A x st:=
 #[k.get S.ll S.at_ nofun,S.le,C,S.kp.trans k]
end
theorem mh {s:Nat} (K:jN x.calendar) (hs:s<=LAST) {st st':List Nat} (h:fY x l s a st=some st') (hl:∀y∈st,y<=LAST):∀y∈st',y<=LAST:=by
 cases a with
 |start=>
  cases h;intro y hy;rcases (Sg).mp hy with rfl|hy
  .exact hs
  .exact hl y hy
 |later=>
  match st,h with
  |p::q::st,h=>
   cases h;have h1:=hl p (by simp);have h2:=hl q (by simp);intro y hy;rcases (Sg).mp hy with rfl|hy
   .omega
   .exact hl y (by simp [hy])
 |dA=>
  match st,h with
  |p::q::st,h=>
   cases h;have h1:=hl p (by simp);have h2:=hl q (by simp);intro y hy;rcases (Sg).mp hy with rfl|hy
   .omega
   .exact hl y (by simp [hy])
 |one f=>
  match st,h with
  |d::st,h=>
   by_cases hg:f= .going
   .subst hg;have h:(few (going l s d)).map (·::st)=some st':=h;cases e:few (going l s d) with
    |none=>rw [e] at h;cases h
    |some y0=>
     rw [e] at h;cases h;intro y hy;rcases (Sg).mp hy with rfl|hy
     .exact (CW e).2
     .exact hl y (by simp [hy])
   .rw [yy x l s K (a:=.one f) (by cases f<;>first|rfl|exact absurd rfl hg) (hl d (by simp))] at h;cases e:Fv x (.one f) d with
    |none=>rw [e] at h;cases h
    |some v=>
     rw [e] at h;have h:(few v).map (·::st)=some st':=h;cases e2:few v with
     |none=>rw [e2] at h;cases h
     |some y0=>
      rw [e2] at h;cases h;intro y hy;rcases (Sg).mp hy with rfl|hy
      .exact (CW e2).2
      .exact hl y (by simp [hy])
 |plus u n=>
  match st,h with
  |d::st,h=>
   rw [yy x l s K (a:=.plus u n) rfl (hl d (by simp))] at h;cases e:Fv x (.plus u n) d with
   |none=>rw [e] at h;cases h
   |some v=>
    rw [e] at h;have h:(few v).map (·::st)=some st':=h;cases e2:few v with
    |none=>rw [e2] at h;cases h
    |some y0=>
     rw [e2] at h;cases h;intro y hy;rcases (Sg).mp hy with rfl|hy
     .exact (CW e2).2
     .exact hl y (by simp [hy])
theorem MJ (a:OLm.Step):∃(w:Str) (n:Nat),l_ a=[.str w,.int (n:Nat)]/\((a= .start/\w=Sj "start")\/(w≠Sj "start" /\((a= .later/\w=Sj "later")\/(w≠Sj "later" /\((a= .dA/\w=Sj "earlier")\/(w≠Sj "earlier" /\((a= .one .going/\w=Sj "going")\/(w≠Sj "going" /\PN a=true)))))))):=by
 cases a with
 |start=>exact #[_,0,rfl,.inl #[rfl,rfl]]
 |later=>exact #[_,0,rfl,.inr #[by decide,.inl ⟨rfl,rfl⟩]]
 |dA=>exact #[_,0,rfl,.inr #[by decide,.inr ⟨by decide,.inl ⟨rfl,rfl⟩⟩]]
 |one f=>cases f with
  |going=>exact #[_,0,rfl,.inr #[by decide,.inr ⟨by decide,.inr ⟨by decide,.inl ⟨rfl,rfl⟩⟩⟩]]
  |receipt=>exact #[_,0,rfl,.inr #[by decide,.inr ⟨by decide,.inr ⟨by decide,.inr ⟨by decide,rfl⟩⟩⟩]]
  |open_=>exact #[_,0,rfl,.inr #[by decide,.inr ⟨by decide,.inr ⟨by decide,.inr ⟨by decide,rfl⟩⟩⟩]]
  |back=>exact #[_,0,rfl,.inr #[by decide,.inr ⟨by decide,.inr ⟨by decide,.inr ⟨by decide,rfl⟩⟩⟩]]
  |month=>exact #[_,0,rfl,.inr #[by decide,.inr ⟨by decide,.inr ⟨by decide,.inr ⟨by decide,rfl⟩⟩⟩]]
 |plus u n=>cases u<;>exact #[_,n,rfl,.inr #[by decide,.inr ⟨by decide,.inr ⟨by decide,.inr ⟨by decide,rfl⟩⟩⟩]]
theorem mL:al ["steps","begin","land","stretches","days","step","word"] ["steps","begin","land","stretches"] (ah (top 46)):=by ext
noncomputable def Fg (c:Cl):Sp:=ON λ(M:KE->Prop) (sa sb la a:KE) (A:CA) (x:Land) (e:Limit) (l:List (Nat×Nat)) (s:Nat) vs H Q E=>vs=[.ref sa,.int (s:Nat),.ref la,.ref sb]/\MI c M H sa sb la a A x e l s/\
 (∀d,endOf x l s e=some d->∀H',bz c M H' a A x.calendar->jW A H H'->Q (.int (d:Nat)) H')/\(endOf x l s e=none->∀H',bz c M H' a A x.calendar->jW A H H'->E (.ref c.ln) none H')
theorem qO (T:Tx):FO (cf P w) 14 "end_of" ["steps","begin","land","stretches"] (Fg c):=by
 refine T.Fy.gX mL (by ext) λf _ _ _ _ H vs Q E hr h=>?_;obtain ⟨M,sa,sb,la,a,A',x,e,l,s0,rfl,R,k1,k2⟩:=h;exists (aa (bt 4 mL.nd (aQ fi))
  (aa (cp Ta rfl (cb (pv 0)) (bg (i:=5) mL.nd rfl (by first|exact Tk rfl|exact Tp rfl)) (aa (bt 6 mL.nd (k9 (pv 5) ag))
  (ac (aL (aA dF (pv 6) bv (aE _)) (ac (bA (dG Sr SD SF bD (pv 4) (aV (pv 1))))) (ac (aL (aA dF (pv 6) bv (aE _)) (ac (bA (dG Sr SD SF bD (pv 4) (aV (aJ (ie rfl) (by rfl) T.m9 Tj (cz (qg Sr T1 T8 qh (pv 4)) (qg Sr T1 T8 qh (pv 4)))))))) (ac (aL (aA dF (pv 6) bv (aE _)) (ac (bA (dG Sr SD SF bD (pv 4) (aV (aJ (oU rfl) (by rfl) T.zo Uj (cz (qg Sr T1 T8 qh (pv 4)) (qg Sr T1 T8 qh (pv 4)))))))) (ac (aL (aA dF (pv 6) bv (aE _)) (ac (bA (dG Sr SD SF bD (pv 4) (aV (bK (lW T) hr.m (aV (fW (yI T) hr.m (dH (qg Sr T1 T8 qh (pv 4)) (pv 1) (pv 3))))))))) (ac (bA (dG Sr SD SF bD (pv 4) (aV (bK (lW T) hr.m (aV (bK (Bt T) hr.m (bY (qg Sr T1 T8 qh (pv 4)) (dH (pv 6) (k9 (pv 5) ag) (pv 2))))))))))))))))))))
  (ac (am (cR (pv 4) ag)))))
 obtain ⟨ps,hp1,hp2⟩:=R.st;have hK:=R.ll.ok;rfl';refine #[SW _,λD hD=>?_];have hp0:=aj.upd (o:=.lst []) hD _ _ hp1;have hf:D≠A'.f:=R.ll.new hD;rfl';refine bR (xs:=ps.map V.ref) (λi σ' H'=>∃(st:List Nat) (v1 v2:Option V),jR x l s0 ((post e).take i) []=some st/\st.length<=i/\Kh c M H H' D a A' x st/\σ'=[some (.ref sa),some (.int (s0:Nat)),some (.ref la),some (.ref sb),some (.ref D),v1,v2]) #[[],_,_,rfl,Sf _,#[ae,λy h=>(nomatch h),R.ll.same (aj.upd hD),jW.of (aj.upd hD)],rfl] (λi σ' H' _ h=>by obtain ⟨st,v1,v2,_,_,S,_⟩:=h;exact cB.of (S.kp.get R.ll hp1 λ_ z=>nomatch z)) ?_ ?_
 .rintro i y σ' H' hy ⟨st,v1,v2,hrun,hlen,S,rfl⟩;obtain ⟨p,hpi,rfl⟩:=fg hy;obtain ⟨st1,hst,hR⟩:=hp2.get hpi;have hlt:i<(post e).length:=((Sl).mp hst).1;have hlen2:=R.len;have hen:=Mi hst hrun;have hsn:=EY hst hrun;have hR1:H' p=some (.tup (l_ st1)):=S.kp.get R.ll hR.1 λ_ z=>nomatch z;have hD1:=S.at_;obtain ⟨w,n,hw,hc⟩:=MJ st1;rw [hw] at hR1;have hroom:∀{z:List Nat},z.length<=i->(z.reverse.map nI).length<sizeLine:=λ{z} h=>by rw [w4,List.length_reverse];exact aI (by omega)
  rfl';rcases hc with ⟨rfl,e1⟩|⟨e1,hc⟩
  .rw [if_pos e1];unfold HH at hD1;rfl';refine bN hD1 (hroom hlen) ?_;have S2:=S.put (st':=s0::st) hD hf (mh hK R.le (show fY x l s0 .start st=some (s0::st) from rfl) S.le);rw [fC] at S2;exact #[s0::st,_,_,hsn,by rw [Si];omega,S2,rfl]
  rw [if_neg e1];rfl';rcases hc with ⟨rfl,e1⟩|⟨e1,hc⟩
  .rw [if_pos e1];obtain ⟨p1,q1,r1,rfl⟩:=D5 (.inl rfl) hen;rw [fC] at hD1;rfl';refine wL hD1 ?_;have hD2:upd H' D (.lst ((q1::r1).reverse.map nI)) D=some (.lst (r1.reverse.map nI++[nI q1])):=by rw [ae,List.reverse_cons,Sw];rfl
   rfl';refine wL hD2 ?_;rfl';rw [uE];refine bN ae (hroom (by rw [Si,Si] at hlen;omega)) ?_;rw [bX,bX];have S2:=S.put (st':=max p1 q1::r1) hD hf (mh hK R.le (show fY x l s0 .later (p1::q1::r1)=some (max p1 q1::r1) from rfl) S.le);rw [fC] at S2;exact #[max p1 q1::r1,_,_,hsn,by rw [Si,Si] at hlen;rw [Si];omega,S2,rfl]
  rw [if_neg e1];rfl';rcases hc with ⟨rfl,e1⟩|⟨e1,hc⟩
  .rw [if_pos e1];obtain ⟨p1,q1,r1,rfl⟩:=D5 (.inr rfl) hen;rw [fC] at hD1;rfl';refine wL hD1 ?_;have hD2:upd H' D (.lst ((q1::r1).reverse.map nI)) D=some (.lst (r1.reverse.map nI++[nI q1])):=by rw [ae,List.reverse_cons,Sw];rfl
   rfl';refine wL hD2 ?_;rfl';rw [Bm];refine bN ae (hroom (by rw [Si,Si] at hlen;omega)) ?_;rw [bX,bX];have S2:=S.put (st':=min p1 q1::r1) hD hf (mh hK R.le (show fY x l s0 .dA (p1::q1::r1)=some (min p1 q1::r1) from rfl) S.le);rw [fC] at S2;exact #[min p1 q1::r1,_,_,hsn,by rw [Si,Si] at hlen;rw [Si];omega,S2,rfl]
  rw [if_neg e1];rfl';have pop:∀{d1:Nat} {r1:List Nat},st=d1::r1->H' D=some (.lst (r1.reverse.map nI++[nI d1]))/\Kh c M H (upd H' D (.lst (r1.reverse.map nI))) D a A' x r1/\d1<=LAST/\r1.length<=i:=λ{d1 r1} e0=>by subst e0;refine #[by rw [hD1,fC],S.put (st':=r1) hD hf λy hy=>S.le y (Sh _ hy),S.le d1 (by simp),by rw [Si] at hlen;omega]
  have keep:∀{H2:Hp},jW A' H H2->∀b o,H b=some o->Nd o->H2 b=some o:=λ{H2} k b o e0 h=>k.get R.ll e0 h.k;rcases hc with ⟨rfl,e1⟩|⟨e1,hmv⟩
  .rw [if_pos e1];obtain ⟨d1,r1,e0⟩:=D6 (.inl #[_,rfl]) hen;obtain ⟨hD2,S2,hd1,hl1⟩:=pop e0;subst e0;rfl';refine wL hD2 ?_;rfl';refine #[sb,l,d1,s0,rfl,R.str.to (keep S2.kp),R.apart,?_];rfl';refine #[going l s0 d1,rfl,λhle=>?_,λhgt=>k2 (qz R.le (i:=i+1) ?_) _ S2.ll S2.kp]
   .rfl';refine bN ae (hroom hl1) ?_;have h3:fY x l s0 (.one .going) (d1::r1)=some (going l s0 d1::r1):=by show (few (going l s0 d1)).map (·::r1)=_;rw [CY hle];rfl
    have S3:=S2.put (st':=going l s0 d1::r1) hD hf (mh hK R.le h3 S.le);rw [fC] at S3;exact #[_,_,_,hsn.trans h3,by rw [Si];omega,S3,rfl]
   .rw [hsn];show (few (going l s0 d1)).map (·::r1)=none;rw [Hf hgt];rfl
  rw [if_neg e1];have hshape:(∃f,st1= .one f)\/∃u n,st1= .plus u n:=by
   cases st1 with
   |one f=>exact .inl #[f,rfl]
   |plus u n=>exact .inr #[u,n,rfl]
   |start=>cases hmv
   |later=>cases hmv
   |dA=>cases hmv
  obtain ⟨d1,r1,e0⟩:=D6 hshape hen;obtain ⟨hD2,S2,hd1,hl1⟩:=pop e0;subst e0;have hsm:=yy x l s0 hK hmv (r:=r1) hd1;rfl';refine wL hD2 ?_;have hR2:upd H' D (.lst (r1.reverse.map nI)) p=some (.tup [.str w,.int (n:Nat)]):=by rw [ai (aX hR1 S.at_ nofun)];exact hR1
  rfl';refine #[M,la,a,A',x,d1,n,st1,w,rfl,hw,hmv,hR.2,R.land.to (keep S2.kp),S2.ll,hd1,λm hm H4 C4 kp4=>?_,λhm H4 C4 kp4=>k2 (qz R.le (i:=i+1) (by rw [hsn,hsm,hm];rfl)) _ C4 (S2.kp.trans kp4)];have S4:=S2.move C4 kp4;rw [hm] at hsm;have hsm:fY x l s0 st1 (d1::r1)=(few m).map (·::r1):=hsm;rfl';refine #[m,rfl,λhle=>?_,λhgt=>k2 (qz R.le (i:=i+1) (by rw [hsn,hsm,Hf hgt];rfl)) _ S4.ll S4.kp];rw [CY hle] at hsm;have hsm:fY x l s0 st1 (d1::r1)=some (m::r1):=hsm;rfl';refine bN S4.at_ (hroom hl1) ?_;have S5:=S4.put (st':=m::r1) hD hf (mh hK R.le hsm S.le);rw [fC] at S5;exact #[_,_,_,hsn.trans hsm,by rw [Si];omega,S5,rfl]
 .rintro σ' H' ⟨st,v1,v2,hrun,hlen,S,rfl⟩;rw [w4,hp2.length,SX] at hrun;obtain ⟨d,e1,rfl⟩:=He R.le hrun;have hD1:H' D=some (.lst [nI d]):=S.at_;rfl';exact k1 d e1 _ S.ll S.kp
theorem uL:al ["steps","begin","land","stretches"] ["steps","begin","land","stretches"] (ah (top 47)):=by ext
noncomputable def uM (c:Cl):Sp:=ON λ(M:KE->Prop) (sa sb la a:KE) (A:CA) (x:Land) (e:Limit) (l:List (Nat×Nat)) (s:Nat) vs H Q _=>vs=[.ref sa,.int (s:Nat),.ref la,.ref sb]/\MI c M H sa sb la a A x e l s/\
 ∀H',bz c M H' a A x.calendar->jW A H H'->Q (oV (endOf x l s e)) H'
theorem fS (T:Tx):FO d8 15 "end_or_none" ["steps","begin","land","stretches"] (uM c):=by
 refine T.ve.g uL (by ext) λ_ _ _ _ _ H vs Q E hr h=>?_;obtain ⟨M,sa,sb,la,a,A',x,e,l,s0,rfl,R,k⟩:=h;exists (ac (Gi rfl rfl (λ_ _ E2 hpB=>(ac (am (tH (qO T) hr.m rfl (E:=E2) hpB (bY (pv 0) (dH (pv 1) (pv 2) (pv 3))))))) (iT rfl T.oz T.jD (λ_=>(ac (am dv))) Gh)));rfl';refine #[M,sa,sb,la,a,A',x,e,l,s0,rfl,R,λd hd H1 C1 kp1=>?_,λhn H1 C1 kp1=>#[_,rfl,T.jD,λσ' _=>?_]]
 .have:=k H1 C1 kp1;rw [hd] at this;exact this
 .have:=k H1 C1 kp1;rw [hn] at this;rw [if_pos rfl];rfl';exact this
end
theorem MK (st:State) (k:Int) (t:List Int):step st [[15,k],t]=if (Sm k 0 5&&isText 100 t)=false then (st,[-1]) else match limitOf (bytes t) with
 |none=>(st,[-6])
 |some e=>({st with limits:=st.limits.set k.toNat (some e)},[0]):=rfl
theorem MM (st:State) (k:Int):step st [[16,k]]=if Sm k 0 5=false then (st,[-1]) else match limitAt st k with
 |none=>(st,[-8])
 |some e=>(st,Sz (shownLimit e)):=rfl
theorem MN (st:State) (k a n:Int):step st [[17,k,a,n]]=if (Sm k 0 5&&(Sm a 0 3&&Sm n 0 146096))=false then (st,[-1]) else match limitAt st k with
 |none=>(st,[-8])
 |some e=>(match endAt st e a.toNat n.toNat with
  |none=>(st,[-9])
  |some d=>(st,Sz [d])):=rfl
theorem MP (st:State) (k a x:Int):step st [[18,k,a,x]]=if (Sm k 0 5&&(Sm a 0 3&&Sm x 0 146096))=false then (st,[-1]) else match limitAt st k with
 |none=>(st,[-8])
 |some e=>(match lastStart (λn=>(endAt st e a.toNat n).any λd=>decide (d<=x.toNat)) 201 x.toNat with
  |none=>(st,[-5])
  |some n=>(st,Sz [n])):=rfl
theorem MQ (st:State) (n:Nat):limitAt st (n:Int)=(st.limits[n]?).join:=rfl
section
theorem c8.ends {O:OA} {M:KE->Prop} {pas:List (KE×CA)} {H H1:Hp} {st:State} (Kk:c8 c M pas H st H1) (R:bI c O pas H st) {j:Nat} {z:KE×CA} (hj:j<4) (hz:pas[j]? =some z) {sa so:KE} {e:Limit} (hs:gl H sa (post e)) (hl:(post e).length<=100) (hstr:kF H so st.stops) {s:Nat} (hle:s<=146096):
 ∃ca,MI c M H1 sa so z.1 ca z.2 (landAt st j) e st.stops s/\∀H2,bz c M H2 ca z.2 (landAt st j).calendar->jW z.2 H1 H2->c8 c M pas H st H2:=by
 obtain ⟨z',x,h1,h2,h3,_⟩:=R.at hj;rw [hz] at h1;cases h1;rw [h3];obtain ⟨a,q1,q2,q3⟩:=Kk.ll j z x hz h2;exact #[a,#[hs.to Kk.nd,hl,hstr.to Kk.nd,R.apart,SA hle (by decide),q1.to Kk.nd,q2],λH2 C k=>Kk.cached R.ap hz h2 q1 C k]
theorem v_:al ["number"] ["number"] (ah (top 115)):=by ext
noncomputable def wa (c:Cl):Sp:=yj λ(n:Int) vs H Q E=>vs=[.int n]/\((0<=n/\n<=5)->Q (.int n) H)/\(¬(0<=n/\n<=5)->E (.ref c.a8) none H)
theorem cA (T:Tx):FO (cf P w) 2 "told_place" ["number"] (wa c):=by refine T.xx.gX v_ (by ext) λ_ _ _ _ _ H vs Q E hr h=>?_;obtain ⟨n,rfl,k1,k2⟩:=h;exists (ac (am (bK (bE T) hr.m (dH (pv 0) ag (gI 5 T.xu rfl)))));rfl';exact #[n,0,5,rfl,k1,k2]
theorem Bu:al ["office","place"] ["office","place"] (ah (top 116)):=by ext
noncomputable def Bv (c:Cl):Sp:=Au λ(O:OA) (pas:List (KE×CA)) (st:State) (n:Nat) vs H Q E=>vs=[.ref O.o,.int (n:Nat)]/\bI c O pas H st/\n<6/\(∀e q,limitAt st (n:Nat)=some e->r_ c H q e->Q (.ref q) H)/\(limitAt st (n:Nat)=none->E (.ref c.NoLimit) none H)
theorem rn (T:Tx):FO (cf P w) 1 "limit_in" ["office","place"] (Bv c):=by
 refine T.B5.gX Bu (by ext) λ_ _ _ _ _ H vs Q E hr h=>?_;obtain ⟨O,pas,st,n,rfl,R,hn,k1,k2⟩:=h;have hu:=ir hr;exists (aa (aL (fh (mD hu (pv 1) (aq (pv 0) rfl)) rfl) (ac (bw newX rfl rfl T.sJ T.nQ)) aC)
  (ac (am (oQ hu (aq (pv 0) rfl) (pv 1) (λ_ _=>rfl)))))
 obtain ⟨so,ho,_⟩:=R.obj;obtain ⟨kvs,l1,l2,l3,l4⟩:=R.limits;have hv:=l3 n hn;rw [MQ] at k1 k2;rfl';refine ay ho T.aN T.eF rfl ?_;refine J8 (n:=(n:Nat)) l1 ?_;cases e:(st.limits[n]?).join with
 |none=>rw [e] at hv;have hv:aY kvs (.inl (n:Int))=none:=hv;rw [hv];rfl';exact k2 e
 |some lim=>rw [e] at hv;obtain ⟨q,hq1,hq2⟩:=hv;rw [hq1];rfl';refine ay ho T.aN T.eF rfl ?_;rfl';refine CI (n:=(n:Nat)) l1 hq1 ?_;exact k1 lim q e hq2
theorem Bw:al ["office","place"] ["office","place"] (ah (top 117)):=by ext
noncomputable def Bx (c:Cl):Sp:=Au λ(O:OA) (pas:List (KE×CA)) (st:State) (n:Nat) vs H Q E=>vs=[.ref O.o,.int (n:Nat)]/\bI c O pas H st/\n<6/\(∀e s,limitAt st (n:Nat)=some e->gl H s (post e)->(post e).length<=100->Q (.ref s) H)/\(limitAt st (n:Nat)=none->E (.ref c.NoLimit) none H)
theorem eD (T:Tx):FO (cf P w) 2 "steps_in" ["office","place"] (Bx c):=by refine T.B6.gX Bw (by ext) λ_ _ _ _ _ H vs Q E hr h=>?_;obtain ⟨O,pas,st,n,rfl,R,hn,k1,k2⟩:=h;exists (ac (am (aq (bK (rn T) hr.m (cz (pv 0) (pv 1))) rfl)));rfl';refine #[O,pas,st,n,rfl,R,hn,λe q he hq=>?_,k2];obtain ⟨dx,t,s1,h1,h2,h3,h4⟩:=hq;refine ay h1 T.oF T.lu rfl ?_;exact k1 e s1 he h4 (SA (lR e) h3)
theorem jA:al ["office","numbers","place","text"] ["office","numbers"] (ah (top 118)):=by ext
noncomputable def wb (c:Cl):Sp:=pz c (λst ns=>step st [15::ns.take 1,ns.drop 1]) (λns=>∃a t,ns=a::t)
theorem wc (T:Tx):FO (cf P w) 68 "call_limit" ["office","numbers"] (wb c):=by
 refine T.xy.gX jA (by ext) λf _ _ _ _ H vs Q E hr h=>?_;obtain ⟨O,pas,st,p,ns,rfl,R,hp,⟨a,t,rfl⟩,h⟩:=h;have hu:=ir hr;have hp:H p=some (.lst (.int a::t.map V.int)):=hp;replace h:Out c O pas H st (step st [[15,a],t]) Q E:=h;rw [MK] at h;exists (aa (bt 2 jA.nd (bK (cA T) hr.m (aV (cR (pv 1) ag))))
  (aa (bt 3 jA.nd (bK (pC T) hr.m (cz (cX ic (pv 1) (cr ag) ib) (gI 100 T.rE rfl))))
  (aa (gt hu (aq (pv 0) rfl) (pv 2) (gF (Hv T) hr.m rfl bq (cz (pv 3) (bK (v9 T) hr.m (aV (pv 3))))) rfl)
  (ac (am (aQ (aV ag)))))))
 rfl';refine #[a,rfl,λq1=>?_,λq=>h.no R fU (bo (dO q)) (aj.refl _)];rfl';refine tQ (cB.of hp) λq hq=>?_;rfl';refine #[q,t,100,rfl,by rw [ae,show (1:Int)=((1:Nat):Int) from rfl,mJ];rfl,by decide,λht H1 u s1 hu1 hu2 hul=>?_,λht H1 s1=>h.no R fU (bo (bW ht)) ((aj.upd hq).trans s1)];rw [cy (wt q1 ht)] at h;have s2:aj H H1:=(aj.upd hq).trans s1;have hu0:H u=none:=(aj.upd hq).free hu1;rfl';refine #[u,bytes t,rfl,hu2,hul,λe he H2 sa s3 hsa hst=>?_,λhe H2 s3=>h.no R RM (by rw [he]) (s2.trans s3)];rw [he] at h;dsimp only at h;obtain ⟨n,rfl⟩:=aT q1.1;rw [So] at h;rfl';intro x dx hx hdx hne;refine #[x,dx,.ref u,.ref sa,rfl,ae,rfl,?_];have s4:aj H2 (upd (upd (upd H2 dx (.own x)) x (.ins c.Limit dx [])) x (.ins c.Limit dx [("text",.ref u),("steps",.ref sa)])):=by rw [bX];exact (aj.upd hdx).trans (aj.upd (by rw [ai hne.symm];exact hx))
 generalize hH3:upd (upd (upd H2 dx (.own x)) x (.ins c.Limit dx [])) x (.ins c.Limit dx [("text",.ref u),("steps",.ref sa)])=H3 at s4;have hx3:H3 x=some (.ins c.Limit dx [("text",.ref u),("steps",.ref sa)]):=by rw [<-hH3];exact ae
 have s5:aj H H3:=(s2.trans s3).trans s4;have R3:=R.same s5;obtain ⟨so,ho,_⟩:=R3.obj;obtain ⟨kvs,l1,l2,_⟩:=R3.limits;rfl';refine ay ho T.aN T.eF rfl ?_;rfl';have hlen:=l2.len;refine qu (n:=(n:Nat)) l1 (aI (by omega)) ?_;have hsh:=nF he;have R4:=R3.Mv l1 (n:=n) (by omega) (q:=x) (e:=e) #[dx,u,sa,hx3,by rw [hsh];exact s4 _ _ (s3 _ _ hu2),by rw [hsh];exact hul,hst.to λb o e _=>s4 _ _ e] (λC dx' fs hf f t' hm=>by
  rw [hx3] at hf;cases hf;simp only [Sg,SI,or_false,Prod.mk.injEq,V.ref.injEq] at hm;rcases hm with ⟨_,rfl⟩|⟨_,rfl⟩
  .exact R.qK hu0
  .exact R.qK (s2.free hsa))
 rfl';refine #[by show 1<=sizeLine;decide,λy hy=>?_];exact h.ret _ y _ (R4.same (aj.upd hy)) (((vR.Rg l1).pre s5).same (aj.upd hy)) ae w8 (R4.ng hy)
theorem pK:al ["office","numbers"] ["office","numbers"] (ah (top 119)):=by ext
noncomputable def pL (c:Cl):Sp:=pz c (λst ns=>step st [16::ns]) Jx
theorem pM (T:Tx):FO (cf P w) 3 "call_limittext" ["office","numbers"] (pL c):=by
 refine T.pY.gX pK (by ext) λ_ _ _ _ _ H vs Q E hr h=>?_;obtain ⟨O,pas,st,p,ns,rfl,R,hp,⟨a,rfl⟩,h⟩:=h;have hp:H p=some (.lst [.int a]):=hp;replace h:Out c O pas H st (step st [[16,a]]) Q E:=h;rw [MM] at h;exists (ac (am (ik wJ (by rfl) T.BP PyProof.Rows.boot_list (aV (aq (bK (rn T) hr.m (cz (pv 0) (bK (cA T) hr.m (aV (cR (pv 1) ag))))) rfl)))));rfl';refine #[a,rfl,λq1=>?_,λq=>h.no R fU (bo (bC q)) (aj.refl _)];rw [cy (be.mpr q1)] at h;obtain ⟨n,rfl⟩:=aT q1.1;rfl';refine #[O,pas,st,n,rfl,R,by omega,λe q he hq=>?_,λhe=>h.no R Kf (by rw [he]) (aj.refl _)];rw [he] at h;obtain ⟨dx,t,s1,h1,h2,h3,h4⟩:=hq;refine ay h1 T.oF T.na rfl ?_;rfl';refine #[t,_,rfl,.inl (cB.of h2),λy hy=>?_];refine h.yes R (l:=Sz (shownLimit e)) rfl (R.k0.same (aj.upd hy)) ?_ ?_ (R.ng hy)
 .rw [ae];unfold Sz;rw [T2];rfl
 .unfold Sz;rw [w4];omega
theorem i_:al ["office","numbers","place","land","begin"] ["office","numbers"] (ah (top 120)):=by ext
noncomputable def By (c:Cl):Sp:=pz c (λst ns=>step st [17::ns]) Dh
theorem Bz (T:Tx):FO (cf P w) 15 "call_end" ["office","numbers"] (By c):=by
 refine T.B7.gX i_ (by ext) λ_ _ _ _ s H vs Q E hr h=>?_;obtain ⟨O,pas,st,p,ns,rfl,R,hp,⟨k,a,n,rfl⟩,h⟩:=h;have hp:H p=some (.lst [.int k,.int a,.int n]):=hp;replace h:Out c O pas H st (step st [[17,k,a,n]]) Q E:=h;rw [MN] at h;exists (aa (bt 2 i_.nd (bK (cA T) hr.m (aV (cR (pv 1) ag))))
  (aa (bt 3 i_.nd (bK (bP T) hr.m (cz (pv 0) (cR (pv 1) ag))))
  (aa (bt 4 i_.nd (bK (aZ T) hr.m (aV (cR (pv 1) ag))))
  (ac (am (aQ (aV (bK (qO T) hr.m (bY (bK (eD T) hr.m (cz (pv 0) (pv 2))) (dH (pv 4) (pv 3) (aq (pv 0) rfl)))))))))))
 obtain ⟨so,ho,hstr,_⟩:=R.obj;rfl';refine #[k,rfl,λq1=>?_,λq=>h.no R fU (bo (dO q)) (aj.refl _)];rfl';refine #[O,pas,st,a,rfl,R,λj z ej hj hz=>?_,λq=>h.no R fU (bo (bW (dO q))) (aj.refl _)];subst ej;rfl';refine #[n,rfl,λq3=>?_,λq=>h.no R fU (bo (bW (bW (bC q)))) (aj.refl _)];rw [cy (wt q1 (wt (by omega) (be.mpr q3)))] at h;obtain ⟨k,rfl⟩:=aT q1.1;obtain ⟨n,rfl⟩:=aT q3.1;rw [So,So] at h;rfl';refine #[O,pas,st,k,rfl,R,by omega,λe sa he hs hl=>?_,λhe=>h.no R Kf (by rw [he]) (aj.refl _)];rw [he] at h;obtain ⟨ca,hE,fin⟩:=R.k0.ends R hj hz hs hl hstr (s:=n) (by omega);rfl';refine ay ho T.aN T.aK rfl ?_;rfl';refine #[_,sa,so,z.1,ca,z.2,_,e,_,n,rfl,hE,λd hd H1 C1 kp1=>?_,λhd H1 C1 kp1=>h.err _ _ _ Rc (by show (match endOf _ _ _ _ with|none=>_|some d=>_)=_;rw [hd]) (fin H1 C1 kp1)];have h:Out c O pas H st (match endOf (landAt st j) st.stops n e with|none=>(st,[-9])|some d=>(st,Sz [d])) Q E:=h;rw [hd] at h;rfl';refine #[by show 1<=sizeLine;decide,λy hy=>?_];exact h.yes R rfl ((fin H1 C1 kp1).same (aj.upd hy)) ae w8 ((R.again (fin H1 C1 kp1)).ng hy)
theorem Fh {lo cc:Int} {n:Nat} (Pv:Nat->L2.St->Hp->Prop) (h0:Pv 0 σ H)
 (hs:∀i σ H,i<n->Pv i σ H->g (.int (lo+(i:Nat)*cc)) σ H λσ2 H2=>tb {D with nx:=Pv (i+1),ct:=Pv (i+1),bk:=D.nx} σ2 H2) (hd:∀σ H,Pv n σ H->D.nx σ H):Ak (PK lo cc n) g tb D σ H:=by
 refine #[λi m σ H=>m=n - i/\i<=n/\Pv i σ H,#[_,rfl,SW _,h0],?_];rintro i m σ H ⟨rfl,hi,p⟩;by_cases hlt:i<n
 .refine .inr #[hlt,Pv (i+1),λσ' H' h=>#[n -(i+1),by omega,rfl,hlt,h],λv H' hx=>?_];obtain ⟨rfl,rfl⟩:H'=H/\v= .int (lo+(i:Nat)*cc):=hx;exact hs i σ H' hlt p
 .have e:i=n:=by omega
  subst e;exact .inl #[Sf _,hd σ H p]
theorem cN:al ["office","numbers","place","land","last","steps","begin","end"] ["office","numbers"] (ah (top 121)):=by ext
noncomputable def uN (c:Cl):Sp:=pz c (λst ns=>step st [18::ns]) Dh
theorem uO (T:Tx):FO (cf P w) 16 "call_latest" ["office","numbers"] (uN c):=by
 refine T.vk.gX cN (by ext) λ_ _ _ _ s H vs Q E hr h=>?_;obtain ⟨O,pas,st,p,ns,rfl,R,hp,⟨k,a,n,rfl⟩,h⟩:=h;have hp:H p=some (.lst [.int k,.int a,.int n]):=hp;replace h:Out c O pas H st (step st [[18,k,a,n]]) Q E:=h;rw [MP] at h;exists (aa (bt 2 cN.nd (bK (cA T) hr.m (aV (cR (pv 1) ag))))
  (aa (bt 3 cN.nd (bK (bP T) hr.m (cz (pv 0) (cR (pv 1) ag))))
  (aa (bt 4 cN.nd (bK (aZ T) hr.m (aV (cR (pv 1) ag))))
  (aa (bt 5 cN.nd (bK (eD T) hr.m (cz (pv 0) (pv 2))))
  (aa (cp Ta rfl (EI rfl T.hX (dH (pv 4) (az cq (aJ (ie rfl) (by rfl) T.m9 Tj (cz ag (az cq (pv 4) (gI 200 T.rF rfl)))) ag) (k6 gP ag))) (bg (i:=6) cN.nd rfl (by first|exact Tk rfl|exact Tp rfl)) (aa (bt 7 cN.nd (fW (fS T) hr.m (bY (pv 5) (dH (pv 6) (pv 3) (aq (pv 0) rfl)))))
  (ac (aL (PW.pt (sW (aA oX (pv 7) dv (aE _)) (oG (aA wv (pv 7) (pv 4) (aE _))))) (ac (am (aQ (aV (pv 6))))) aC))))
  (ac (bw newX rfl rfl T.j5 T.hZ)))))))
 obtain ⟨so,ho,hstr,_⟩:=R.obj;rfl';refine #[k,rfl,λq1=>?_,λq=>h.no R fU (bo (dO q)) (aj.refl _)];rfl';refine #[O,pas,st,a,rfl,R,λj z ej hj hz=>?_,λq=>h.no R fU (bo (bW (dO q))) (aj.refl _)];subst ej;rfl';refine #[n,rfl,λq3=>?_,λq=>h.no R fU (bo (bW (bW (bC q)))) (aj.refl _)];rw [cy (wt q1 (wt (by omega) (be.mpr q3)))] at h;obtain ⟨k,rfl⟩:=aT q1.1;obtain ⟨n,rfl⟩:=aT q3.1;rw [So,So] at h;rfl';refine #[O,pas,st,k,rfl,R,by omega,λe sa he hs hl=>?_,λhe=>h.no R Kf (by rw [he]) (aj.refl _)];rw [he] at h;dsimp only at h;generalize hg:(λm=>(endAt st e j m).any λd=>decide (d<=n))=good at h;rfl';refine #[_,_,_,_,rfl,NB.neg (by omega) (by omega) (by omega) (by omega),?_];have hN:((n:Int)-(max 0 ((n:Int)- 200)- 1)).toNat=min n 200+1:=by omega
 rw [hN];refine Fh (λi σ' H'=>c8 c (dS O pas) pas H st H'/\(∀q,q<i->good (n - q)=false)/\∃v1 v2,σ'=[some (.ref O.o),some (.ref p),some (.int (k:Nat)),some (.ref z.1),some (.int (n:Nat)),some (.ref sa),v1,v2]) #[R.k0,λq hq=>absurd hq (Ug _),_,_,rfl] ?_ ?_
 .rintro i σ' H' hi ⟨K1,hno,v1,v2,rfl⟩;have hi2:i<=n/\i<201:=by omega
  obtain ⟨ca,hE,fin⟩:=K1.ends R hj hz hs hl hstr (s:=n - i) (by omega);have ho1:=K1.nd _ _ ho trivial;have hb:(n:Int)+(i:Nat)* -1=((n - i:Nat):Int):=by omega
  rw [hb];rfl';refine ay ho1 T.aN T.aK rfl ?_;rfl';refine #[_,sa,so,z.1,ca,z.2,_,e,_,n - i,rfl,hE,λH1 C1 kp1=>?_];have K2:=fin H1 C1 kp1;have hgood:good (n - i)=(endOf (landAt st j) st.stops (n - i) e).any λd=>decide (d<=n):=by rw [<-hg];rfl
  have next:good (n - i)=false->∀q,q<i+1->good (n - q)=false:=λhf q hq=>by
   by_cases z:q=i
   .rw [z];exact hf
   .exact hno q (by omega)
  cases hc:endOf (landAt st j) st.stops (n - i) e with
  |none=>rw [hc] at hgood;dsimp only [oV];rfl';exact #[K2,next hgood,_,_,rfl]
  |some d=>
   rw [hc] at hgood;dsimp only [oV];rfl';by_cases hle:(d:Int)<=n
   .rw [if_pos hle];rfl';refine #[by show 1<=sizeLine;decide,λy hy=>?_];refine h.yes R (l:=Sz [n - i]) ?_ (K2.same (aj.upd hy)) ae w8 ((R.again K2).ng hy);rw [lS i 201 n hi2.2 hi2.1 hno (by rw [hgood];exact decide_eq_true (by omega))]
   .rw [if_neg hle];rfl';exact #[K2,next (by rw [hgood];exact decide_eq_false (by omega)),_,_,rfl]
 .rintro σ' H' ⟨K1,hno,v1,v2,rfl⟩;rfl';refine h.err _ _ _ RL ?_ K1;rw [lT 201 n λq h1 h2=>hno q (by omega)]
end
noncomputable def mi (j k a n m:Int):Bool:=Sm j 0 5&&(Sm k 0 5&&(Sm a 0 3&&(Sm n 0 146096&&(Sm m 0 146096&&(decide (n<=m)&&decide (m<=n+60))))))
noncomputable def ow (p q:Option Nat):Bool:=match p,q with
 |some p,some q=>decide (q<p)
 |none,some _=>true
 |_,none=>false
theorem MR (st:State) (j k a n m:Int):step st [[19,j,k,a,n,m]]=if mi j k a n m=false then (st,[-1]) else match limitAt st j,limitAt st k with
 |some e,some g=>(match firstStart (λi=>endAt st e a.toNat i !=endAt st g a.toNat i) (m - n+1).toNat n.toNat with
  |none=>(st,[1])
  |some i=>(st,[0,(i:Int)]))
 |_,_=>(st,[-8]):=rfl
theorem MS (st:State) (j k a n m:Int):step st [[20,j,k,a,n,m]]=if mi j k a n m=false then (st,[-1]) else match limitAt st j,limitAt st k with
 |some e,some g=>(match firstStart (λi=>ow (endAt st e a.toNat i) (endAt st g a.toNat i)) (m - n+1).toNat n.toNat with
  |none=>(st,[1])
  |some i=>(st,[0,(i:Int)]))
 |_,_=>(st,[-8]):=rfl
theorem MT (st:State) (k n:Int):step st [[26,k,n]]=if (Sm k 0 5&&Sm n 0 146096)=false then (st,[-1]) else match limitAt st k with
 |none=>(st,[-8])
 |some e=>(match allSome ((SR 4).map λa=>endAt st e a n.toNat) with
  |none=>(st,[-9])
  |some l=>(st,Sz (l++[l.idxOf (l.foldl max 0)]))):=rfl
section
theorem c8.pre {O:OA} {M:KE->Prop} {pas:List (KE×CA)} {H H0 H1:Hp} {st:State} (R:bI c O pas H st) (s:aj H H0) (Kk:c8 c M pas H0 st H1):c8 c M pas H st H1:=by refine #[λb o e n n2=>Kk.kp b o (s b o e) n n2,λj z x h1 h2=>?_,Kk.mem,λb hb o e=>Kk.dd b hb o (s b o e),Kk.tab,let ⟨ps,e,_⟩:=R.tab;⟨ps,e⟩];obtain ⟨a',⟨dx',t',q1',q2'⟩,_⟩:=R.each.at h1 h2;obtain ⟨a,⟨dx,t,q1,q2⟩,q3,q4⟩:=Kk.ll j z x h1 h2;have e:=s _ _ q1';rw [q1] at e;have e3:some (("calendar" :Str),V.ref a)=some (("calendar" :Str),V.ref a'):=congrArg (λl=>l[3]?) (HO.ins.inj (Sd e)).2.2;obtain rfl:=V.ref.inj (congrArg Prod.snd (Sd e3));exact #[_,#[_,_,q1',q2'],q3,q4]
theorem bf:al ["office","numbers","places","land","first","last","one","other","rows","begin","end","number"] ["office","numbers"] (ah (top 124)):=by ext
noncomputable def HI (n:Nat) (p q:Option Nat):HO:=.tup [.int (n:Nat),oV p,oV q]
noncomputable def uP (H:Hp) (n:Nat) (f g:Nat->Option Nat) (N:Nat) (rs:List KE):Prop:=rs.length=N/\∀i,i<N->∃r,rs[i]? =some r/\H r=some (HI (n+i) (f (n+i)) (g (n+i)))
noncomputable def sj (c:Cl):Sp:=Q4 λ(O:OA) (pas:List (KE×CA)) (st:State) (p:KE) (j k a n m:Int) vs H Q E=>vs=[.ref O.o,.ref p]/\bI c O pas H st/\H p=some (.lst [.int j,.int k,.int a,.int n,.int m])/\
 (mi j k a n m=false->∀H',c8 c (dS O pas) pas H st H'->E (.ref c.a8) none H')/\(mi j k a n m=true->(limitAt st j=none\/limitAt st k=none)->∀H',c8 c (dS O pas) pas H st H'->E (.ref c.NoLimit) none H')/\
 (mi j k a n m=true->∀e g,limitAt st j=some e->limitAt st k=some g->∀H' q rs,c8 c (dS O pas) pas H st H'->H' q=some (.lst (rs.map V.ref))->uP H' n.toNat (endAt st e a.toNat) (endAt st g a.toNat) (m - n+1).toNat rs->Q (.ref q) H')
theorem HJ {n:Nat} {f g:Nat->Option Nat} {i:Nat} (h:uP H n f g i rs) (hD:H D=some (.lst (rs.map V.ref))) (hp:H p=none):uP (upd (upd H p (HI (n+i) (f (n+i)) (g (n+i)))) D (.lst (rs.map V.ref++[.ref p]))) n f g (i+1) (rs++[p]):=by
 have hn:p≠D:=λe=>by rw [e,hD] at hp;cases hp
 refine #[by rw [Sq,h.1];rfl,λq hq=>?_];by_cases z:q=i
 .subst z;refine #[p,by rw [List.getElem?_append_right (by rw [h.1];exact Sf _),h.1];simp,?_];rw [ai hn,ae]
 .obtain ⟨r,e1,e2⟩:=h.2 q (by omega);refine #[r,by rw [List.getElem?_append_left (by rw [h.1];omega)];exact e1,?_];have e3:=aj.upd (o:=HI (n+i) (f (n+i)) (g (n+i))) hp _ _ e2;rw [ai (aX e3 (aj.upd hp _ _ hD) nofun)];exact e3
theorem uP.to {n:Nat} {f g:Nat->Option Nat} {N:Nat} (h:uP H n f g N rs) (k:∀b o,H b=some o->Nd o->H' b=some o):uP H' n f g N rs:=#[h.1,λi hi=>let ⟨r,e1,e2⟩:=h.2 i hi;⟨r,e1,k _ _ e2 trivial⟩]
theorem lb (T:Tx):FO (cf P w) 16 "ends_of_both" ["office","numbers"] (sj c):=by
 refine T.sP.gX bf (by ext) λ_ _ _ _ s H vs Q E hr h=>?_;obtain ⟨O,pas,st,p,j,k,a,n,m,rfl,R,hp,k1,k2,k3⟩:=h;exists (aa (wI (i:=2) (E:=E) DL rfl rfl rfl rfl bf.nd rfl rfl rfl (cb (cX ic (pv 1) ib (cr ag))) (own:=[("number",11)]) (ok:=(#[rfl,by decide+kernel,by decide+kernel,by decide+kernel,by decide+kernel]:ni ["office","numbers","places","land","first","last","one","other","rows","begin","end","number"] (ah (top 124)) _ [("number",11)])) (λ_ _ _ _ _ _=>bg (i:=11) bf.nd rfl (Tk rfl)) (λ_ _ _ _ _ _=>oO) (λ_ _ _ _ _ _ hpB=>(tH (cA T) hr.m rfl (E:=E) hpB (aV (pv 11)))))
  (aa (bt 3 bf.nd (bK (bP T) hr.m (cz (pv 0) (cR (pv 1) ag))))
  (aa (bt 4 bf.nd (bK (aZ T) hr.m (aV (cR (pv 1) ag))))
  (aa (bt 5 bf.nd (bK (cJ T) hr.m (dH (cR (pv 1) ag) (pv 4) (gI 60 T.rG rfl))))
  (aa (bt 6 bf.nd (bK (eD T) hr.m (cz (pv 0) (cR (pv 2) ag))))
  (aa (bt 7 bf.nd (bK (eD T) hr.m (cz (pv 0) (cR (pv 2) ag))))
  (aa (bt 8 bf.nd (aQ fi))
  (aa (cp Ta rfl (mB rfl T.hX (cz (pv 4) (az aP (pv 5) ag))) (bg (i:=9) bf.nd rfl (by first|exact Tk rfl|exact Tp rfl)) (aa (bt 10 bf.nd (fW (fS T) hr.m (bY (pv 6) (dH (pv 9) (pv 3) (aq (pv 0) rfl)))))
  (ac (bA (dG Sr SD SF bD (pv 8) (aV (gQ (dH (pv 9) (pv 10) (fW (fS T) hr.m (bY (pv 7) (dH (pv 9) (pv 3) (aq (pv 0) rfl))))))))))))
  (ac (am (pv 8)))))))))))
 rfl';refine tQ (cB.of hp) λq hq=>?_;have hq1:upd H q (.lst (fD [.int j,.int k,.int a,.int n,.int m] none (some 2))) q=some (.lst [.int j,.int k]):=by rw [ae,show (2:Int)=((2:Nat):Int) from rfl,w6];rfl
 have s1:aj H (upd H q (.lst (fD [.int j,.int k,.int a,.int n,.int m] none (some 2)))):=aj.upd hq;generalize upd H q (.lst (fD [.int j,.int k,.int a,.int n,.int m] none (some 2)))=H1 at hq1 s1;rfl';intro D hD;have no:∀{H'},mi j k a n m=false->aj H1 H'->E (.ref c.a8) none H':=λ{H'} h s=>k1 h _ (R.k0.same (s1.trans s));refine pk (xs:=[V.int j,.int k]) (λi H'=>aj H1 H'/\H' D=some (.lst ([V.int j,.int k].take i))/\(0<i->0<=j/\j<=5)/\(1<i->0<=k/\k<=5)) #[aj.upd hD,ae,λh=>absurd h (by decide),λh=>absurd h (by decide)] (λi H' _ h=>cB.of (h.1 _ _ hq1)) ?_ ?_
 .rintro i y H' hy ⟨s2,hD2,hj,hk⟩;rfl';refine #[rfl,?_];rfl'
  match i,hy with
  |0,hy=>cases hy;refine #[j,rfl,λz=>?_,λz=>no (dO z) s2];refine #[_,hD2,by show 0<sizeLine;decide,λb o e=>?_,ae,λ_=>z,λh=>absurd h (by decide)];rw [ai (ak e hD)];exact s2 b o e
  |1,hy=>cases hy;refine #[k,rfl,λz=>?_,λz=>no (bW (dO z)) s2];refine #[_,hD2,by show 1<sizeLine;decide,λb o e=>?_,ae,λ_=>hj (by decide),λ_=>z];rw [ai (ak e hD)];exact s2 b o e
  |i+2,hy=>simp at hy
 .rintro H2 ⟨s2,hD2,hj,hk⟩;replace hj:=hj (by show 0<2;decide);replace hk:=hk (by show 1<2;decide);have hD2:H2 D=some (.lst [.int j,.int k]):=hD2;have s3:=s1.trans s2;have R2:=R.same s3;have hp2:=s3 _ _ hp;have no:mi j k a n m=false->E (.ref c.a8) none H2:=λh=>k1 h _ (R.k0.same s3);rfl';refine #[O,pas,st,a,rfl,R2,λjj z ej hjj hz=>?_,λq=>no (bW (bW (dO q)))];rfl';refine #[n,rfl,λq4=>?_,λq=>no (bW (bW (bW (dO q))))];rfl';refine #[m,n,60,rfl,λq5=>?_,λq=>no (bW (bW (bW (bW ?_))))]
  rotate_left
  .by_cases z:0<=m/\m<=146096
   .exact bW (Jz (by omega))
   .exact dO z
  have yes:mi j k a n m=true:=wt hj (wt hk (wt (by omega) (wt q4 (wt (by omega) (ux.mpr (by omega))))));have kk2:=k2 yes;have kk3:=k3 yes;clear k2 k3;subst ej;obtain ⟨j,rfl⟩:=aT hj.1;obtain ⟨k,rfl⟩:=aT hk.1;obtain ⟨n,rfl⟩:=aT q4.1;obtain ⟨m,rfl⟩:=aT q5.1;obtain ⟨so,ho,hstr,_⟩:=R2.obj;rfl';refine #[O,pas,st,j,rfl,R2,by omega,λe sa he hs hl=>?_,λhe=>kk2 (.inl he) _ (R.k0.same s3)];rfl';refine #[O,pas,st,k,rfl,R2,by omega,λg sb hg hs2 hl2=>?_,λhe=>kk2 (.inr he) _ (R.k0.same s3)];rfl';refine #[SW _,λD3 hD3=>?_];rfl';refine #[_,_,rfl,by omega,?_];refine kj (λi σ' H'=>c8 c (dS O pas) pas H2 st H'/\∃rs v1 v2,H' D3=some (.lst (rs.map V.ref))/\uP H' n (endAt st e jj) (endAt st g jj) i rs/\σ'=[some (.ref O.o),some (.ref p),some (.ref D),some (.ref z.1),some (.int (n:Nat)),some (.int (m:Nat)),some (.ref sa),some (.ref sb),some (.ref D3),v1,v2,none]) #[R2.k0.same (aj.upd hD3),[],_,_,ae,#[rfl,λi h=>absurd h (Ug _)],rfl] ?_ ?_
  .rintro i σ' H' hi ⟨K1,rs,v1,v2,hD4,hrs,rfl⟩;have hin:n+i<=146096:=by omega
   have hi60:rs.length<=61:=by rw [hrs.1];omega
   obtain ⟨ca,hE,fin⟩:=K1.ends R2 hjj hz hs hl hstr (s:=n+i) hin;have ho1:=K1.nd _ _ ho trivial;rw [show (n:Int)+(i:Nat)=((n+i:Nat):Int) from rfl];rfl';refine ay ho1 T.aN T.aK rfl ?_;rfl';refine #[_,sa,so,z.1,ca,z.2,_,e,_,n+i,rfl,hE,λH3 C3 kp3=>?_];have K2:=fin H3 C3 kp3;have kg:∀{b o},H' b=some o->(∀kvs,o≠.dK kvs)->H3 b=some o:=λh n=>kp3.get hE.ll h n;have hD5:=kg hD4 λ_ z=>nomatch z;obtain ⟨ca2,hE2,fin2⟩:=K2.ends R2 hjj hz hs2 hl2 hstr (s:=n+i) hin;have ho2:=K2.nd _ _ ho trivial;rfl';refine ay ho2 T.aN T.aK rfl ?_;rfl';refine #[_,sb,so,z.1,ca2,z.2,_,g,_,n+i,rfl,hE2,λH4 C4 kp4=>?_];have K3:=fin2 H4 C4 kp4;have kg2:∀{b o},H3 b=some o->(∀kvs,o≠.dK kvs)->H4 b=some o:=λh n=>kp4.get hE2.ll h n;have hD6:=kg2 hD5 λ_ z=>nomatch z;have hrs2:=(hrs.to λb o e h=>kg e h.k).to λb o e h=>kg2 e h.k;rfl';refine #[by show 3<=sizeLine;decide,λr hr=>?_];rfl';refine bN (aj.upd hr _ _ hD6) (by rw [w4];exact aI (by omega)) ?_;refine #[(K3.same (aj.upd hr)).put hD3 (aj.upd hr _ _ hD6) R2.fs,rs++[r],_,_,by rw [ae,Sw];rfl,HJ hrs2 hD6 hr,rfl]
  .rintro σ' H' ⟨K1,rs,v1,v2,hD4,hrs,rfl⟩;rfl';have hN:((m:Int)+1 -(n:Nat)).toNat=((m:Int)-(n:Nat)+1).toNat:=by omega
   rw [hN] at hrs;exact kk3 e g he hg H' D3 rs (c8.pre R s3 K1) hD4 hrs
theorem wd:al ["one","other"] ["one","other"] (ah (top 125)):=by ext
noncomputable def we:Sp:=Jf λ(p q:Option Nat) vs H Q _=>vs=[oV p,oV q]/\Q (.bl (ow p q)) H
theorem wf (T:Tx):FO d8 1 "ends_later" ["one","other"] we:=by
 refine T.xA.g wd (by ext) λ_ _ _ _ _ H vs Q E hr h=>?_;obtain ⟨p,q,rfl,k⟩:=h;exists (aa (aL (PW.pt (nh (aA qt (pv 0) dv (aE _)) (jf (aA qt (pv 1) dv (aE _))))) (ac (am (xL (iQ qt (pv 0) dv (aE _)) (sX (iQ oX (pv 1) dv (aE _)))))) aC)
  (ac (am (iQ iP (pv 0) (pv 1) (aE _)))))
 cases p with
 |none=>
  cases q with
  |none=>simp only [oV];rfl';exact k
  |some q=>simp only [oV];rfl';exact k
 |some p=>
  cases q with
  |none=>simp only [oV];rfl';exact k
  |some q=>
   simp only [oV];rfl';have e:decide ((q:Int)<(p:Int))=ow (some p) (some q):=by
    show _=decide (q<p);by_cases h:q<p
    .rw [decide_eq_true h,decide_eq_true (by omega)]
    .rw [decide_eq_false h,decide_eq_false (by omega)]
   rw [e];exact k
theorem Po (p q:Option Nat):M6 (oV p) (oV q)=λH Q=>Q (.bl (p !=q)) H:=by
 funext H Q;unfold M6;have e:(!decide (oV p=oV q))=(p !=q):=by
  cases p with
  |none=>
   cases q with
   |none=>rfl
   |some q=>rfl
  |some p=>
   cases q with
   |none=>rfl
   |some q=>
    show (!decide (V.int (p:Nat)= .int (q:Nat)))=(some p !=some q);by_cases h:p=q
    .subst h;simp
    .rw [decide_eq_false (λz=>h (by have:=V.int.inj z;omega))];symm;show (!(some p==some q))=_;rw [beq_eq_false_iff_ne.mpr (λz=>h (Sd z))]
 have s:Ij (oV p) (oV q)=true:=by cases p<;>cases q<;>rfl
 rw [s,e];simp
noncomputable def Pp (ns:List Int):Prop:=∃j k a n m,ns=[j,k,a,n,m]
theorem w9 {α:Type} {f:Limit->Limit->α} {d:α}:(p=none\/q=none)->(match p,q with
 |some e,some g=>f e g
 |_,_=>d)=d:=by
 rintro (rfl|rfl)
 .rfl
 .cases p<;>rfl
theorem pN:al ["office","numbers","row"] ["office","numbers"] (ah (top 122)):=by ext
noncomputable def zb (c:Cl):Sp:=pz c (λst ns=>step st [19::ns]) Pp
theorem zc (T:Tx):FO (cf P w) 17 "call_same" ["office","numbers"] (zb c):=by
 refine T.zM.gX pN (by ext) λ_ _ _ _ _ H vs Q E hr h=>?_;obtain ⟨O,pas,st,p,ns,rfl,R,hp,⟨j,k,a,n,m,rfl⟩,h⟩:=h;have hp:H p=some (.lst [.int j,.int k,.int a,.int n,.int m]):=hp;replace h:Out c O pas H st (step st [[19,j,k,a,n,m]]) Q E:=h;rw [MR] at h;exists (aa (cp Ta rfl (cb (bK (lb T) hr.m (cz (pv 0) (pv 1)))) (bg (i:=2) pN.nd rfl (by first|exact Tk rfl|exact Tp rfl)) (ac (aL (aA z3 (k9 (pv 2) ag) (k9 (pv 2) ag) (aE _)) (ac (am (aQ (cz ag (k9 (pv 2) ag))))) aC)))
  (ac (am (aQ (aV ag)))))
 rfl';refine #[O,pas,st,p,j,k,a,n,m,rfl,R,hp,λhb H1 K1=>h.err _ _ _ fU (bo hb) K1,λhb hn H1 K1=>h.err _ _ _ Kf ((cy hb).trans (w9 hn)) K1,λhb e g he hg H1 q rs K1 hq hrs=>?_];rw [cy hb,he,hg] at h;dsimp only at h;generalize hN:(m - n+1).toNat=N at h hrs;rfl';refine bR (xs:=rs.map V.ref) (λi σ' H'=>H'=H1/\(∀q,q<i->(endAt st e a.toNat (n.toNat+q)!=endAt st g a.toNat (n.toNat+q))=false)/\∃v,σ'=[some (.ref O.o),some (.ref p),v]) #[rfl,λq hq=>absurd hq (Ug _),_,rfl] (λi σ' H' _ h=>by obtain ⟨rfl,_⟩:=h;exact cB.of hq) ?_ ?_
 .rintro i y σ' H' hy ⟨rfl,hno,v,rfl⟩;obtain ⟨u,hu,rfl⟩:=fg hy;have hi:i<N:=by have:=((Sl).mp hu).1;rw [hrs.1] at this;exact this
  obtain ⟨r,hr1,hr2⟩:=hrs.2 i hi;rw [hu] at hr1;cases hr1;unfold HI at hr2;rfl';rw [Po];rfl';cases hc:endAt st e a.toNat (n.toNat+i)!=endAt st g a.toNat (n.toNat+i) with
  |true=>rfl';refine #[by show 2<=sizeLine;decide,λy hy=>?_];refine h.yes R (l:=[0,((n.toNat+i:Nat):Int)]) ?_ (K1.same (aj.upd hy)) ae Re ((R.again K1).ng hy);rw [gT (bad:=λi=>endAt st e a.toNat i !=endAt st g a.toNat i) i N n.toNat hi hno hc]
  |false=>
   rfl';refine #[rfl,λq hq=>?_,_,rfl];by_cases z:q=i
   .rw [z];exact hc
   .exact hno q (by omega)
 .rintro σ' H' ⟨rfl,hno,v,rfl⟩;rw [w4,hrs.1] at hno;rfl';refine #[by show 1<=sizeLine;decide,λy hy=>?_];refine h.yes R (l:=[1]) ?_ (K1.same (aj.upd hy)) ae w8 ((R.again K1).ng hy);rw [gU (bad:=λi=>endAt st e a.toNat i !=endAt st g a.toNat i) N n.toNat hno]
theorem nN:al ["office","numbers","row"] ["office","numbers"] (ah (top 123)):=by ext
noncomputable def wg (c:Cl):Sp:=pz c (λst ns=>step st [20::ns]) Pp
theorem wj (T:Tx):FO (cf P w) 17 "call_never" ["office","numbers"] (wg c):=by
 refine T.xz.gX nN (by ext) λ_ _ _ _ _ H vs Q E hr h=>?_;obtain ⟨O,pas,st,p,ns,rfl,R,hp,⟨j,k,a,n,m,rfl⟩,h⟩:=h;have hp:H p=some (.lst [.int j,.int k,.int a,.int n,.int m]):=hp;replace h:Out c O pas H st (step st [[20,j,k,a,n,m]]) Q E:=h;rw [MS] at h;exists (aa (cp Ta rfl (cb (bK (lb T) hr.m (cz (pv 0) (pv 1)))) (bg (i:=2) nN.nd rfl (by first|exact Tk rfl|exact Tp rfl)) (ac (aL (c9 (fW (wf T) hr.m (cz (k9 (pv 2) ag) (k9 (pv 2) ag)))) (ac (am (aQ (cz ag (k9 (pv 2) ag))))) aC)))
  (ac (am (aQ (aV ag)))))
 rfl';refine #[O,pas,st,p,j,k,a,n,m,rfl,R,hp,λhb H1 K1=>h.err _ _ _ fU (bo hb) K1,λhb hn H1 K1=>h.err _ _ _ Kf ((cy hb).trans (w9 hn)) K1,λhb e g he hg H1 q rs K1 hq hrs=>?_];rw [cy hb,he,hg] at h;dsimp only at h;generalize hN:(m - n+1).toNat=N at h hrs;rfl';refine bR (xs:=rs.map V.ref) (λi σ' H'=>H'=H1/\(∀q,q<i->ow (endAt st e a.toNat (n.toNat+q)) (endAt st g a.toNat (n.toNat+q))=false)/\∃v,σ'=[some (.ref O.o),some (.ref p),v]) #[rfl,λq hq=>absurd hq (Ug _),_,rfl] (λi σ' H' _ h=>by obtain ⟨rfl,_⟩:=h;exact cB.of hq) ?_ ?_
 .rintro i y σ' H' hy ⟨rfl,hno,v,rfl⟩;obtain ⟨u,hu,rfl⟩:=fg hy;have hi:i<N:=by have:=((Sl).mp hu).1;rw [hrs.1] at this;exact this
  obtain ⟨r,hr1,hr2⟩:=hrs.2 i hi;rw [hu] at hr1;cases hr1;unfold HI at hr2;rfl';refine #[_,_,rfl,?_];rfl';cases hc:ow (endAt st e a.toNat (n.toNat+i)) (endAt st g a.toNat (n.toNat+i)) with
  |true=>rfl';refine #[by show 2<=sizeLine;decide,λy hy=>?_];refine h.yes R (l:=[0,((n.toNat+i:Nat):Int)]) ?_ (K1.same (aj.upd hy)) ae Re ((R.again K1).ng hy);rw [gT (bad:=λi=>ow (endAt st e a.toNat i) (endAt st g a.toNat i)) i N n.toNat hi hno hc]
  |false=>
   rfl';refine #[rfl,λq hq=>?_,_,rfl];by_cases z:q=i
   .rw [z];exact hc
   .exact hno q (by omega)
 .rintro σ' H' ⟨rfl,hno,v,rfl⟩;rw [w4,hrs.1] at hno;rfl';refine #[by show 1<=sizeLine;decide,λy hy=>?_];refine h.yes R (l:=[1]) ?_ (K1.same (aj.upd hy)) ae w8 ((R.again K1).ng hy);rw [gU (bad:=λi=>ow (endAt st e a.toNat i) (endAt st g a.toNat i)) N n.toNat hno]
end
theorem MU (K:UT) (i:Nat) (hN:X.N[i]? =some x:=by rfl) (hv:Ib X.env.scope x:=by first|exact Tk rfl|exact Tp (Tk rfl)|exact Tp (Tp rfl)) (hd:(x==("__debug__" :Str))=false:=by decide)
 (hcd:(x==("__classdict__" :Str))=false:=by decide) (hK:X.K=K:=by rfl):PE X (.Attribute (.Name x pos) f pos') (EC K (nU i) f):=by subst hK;exact aq (pv i hN hv hd hcd) rfl
theorem Ec (l:List Nat):∀a,a<=l.foldl max a/\∀y∈l,y<=l.foldl max a:=by
 induction l with
 |nil=>intro a;exact #[Sf _,λy h=>nomatch h]
 |cons x l ih=>
  intro a;obtain ⟨h1,h2⟩:=ih (max a x);refine #[by show a<=l.foldl max (max a x);omega,λy hy=>?_];rcases (Sg).mp hy with rfl|hy
  .show y<=l.foldl max (max a y);omega
  .exact h2 y hy
theorem HK (l:List Nat):∀a,l.foldl max a=a\/l.foldl max a∈l:=by
 induction l with
 |nil=>intro a;exact .inl rfl
 |cons x l ih=>
  intro a;rcases ih (max a x) with h|h
  .show l.foldl max (max a x)=a\/_;rw [h];by_cases z:x<=a
   .left;omega
   .right;show l.foldl max (max a x)∈_;rw [h,show max a x=x by omega];exact Sk
  .exact .inr (Sh _ h)
theorem JN {l:List Nat} (h:l≠[]):l.foldl max 0∈l:=by
 rcases HK l 0 with e|e
 .cases l with
  |nil=>exact absurd rfl h
  |cons x l=>
   have:=(Ec (x::l) 0).2 x Sk;rw [e] at this ⊢;have:x=0:=by omega
   rw [this];exact Sk
 .exact e
theorem MV (st:State) (k a m:Int):step st [[21,k,a,m]]=if (Sm k 0 9&&(Sm a 0 3&&Sm m 1440 210378240))=false then (st,[-1]) else if 30<=st.acts.length then (st,[-3]) else ({st with acts:=st.acts++[#[k.toNat,a.toNat,m.toNat]]},Sz [st.acts.length]):=rfl
theorem MW (st:State):step st [[22]]=(st,Sz (st.acts.length::st.acts.flatMap λx=>[x.kind,x.land,x.minute])):=rfl
theorem MX (st:State) (a m:Int):step st [[25,a,m]]=if (Sm a 0 3&&Sm m 1440 210378240)=false then (st,[-1]) else (st,[(m+(landAt st a.toNat).ahead)/1440,(m+(landAt st a.toNat).ahead)%1440]):=rfl
section
theorem eO:al ["office","numbers","place","begin","steps","ends","land"] ["office","numbers"] (ah (top 126)):=by ext
noncomputable def zd (c:Cl):Sp:=pz c (λst ns=>step st [26::ns]) vS
theorem MY (l:List Nat):l.map nI=(Sz l).map V.int:=by unfold Sz;rw [T2];rfl
theorem ze (T:Tx):FO (cf P w) 15 "call_ends" ["office","numbers"] (zd c):=by
 refine T.zN.gX eO (by ext) λf _ _ _ s H vs Q E hr h=>?_;obtain ⟨O,pas,st,p,ns,rfl,R,hp,⟨k,n,rfl⟩,h⟩:=h;have hp:H p=some (.lst [.int k,.int n]):=hp;replace h:Out c O pas H st (step st [[26,k,n]]) Q E:=h;rw [MT] at h;exists (aa (bt 2 eO.nd (bK (cA T) hr.m (aV (cR (pv 1) ag))))
  (aa (bt 3 eO.nd (bK (aZ T) hr.m (aV (cR (pv 1) ag))))
  (aa (bt 4 eO.nd (bK (eD T) hr.m (cz (pv 0) (pv 2))))
  (aa (wI (i:=5) (E:=E) DL rfl rfl rfl rfl eO.nd rfl rfl rfl (cb (aq (pv 0) rfl)) (own:=[("land",6)]) (ok:=(#[rfl,by decide+kernel,by decide+kernel,by decide+kernel,by decide+kernel]:ni ["office","numbers","place","begin","steps","ends","land"] (ah (top 126)) _ [("land",6)])) (λ_ _ _ _ _ _=>bg (i:=6) eO.nd rfl (Tk rfl)) (λ_ _ _ _ _ _=>oO) (λ_ _ _ _ _ _ hpB=>(tH (qO T) hr.m rfl (E:=E) hpB (bY (pv 4) (dH (pv 3) (pv 6) (MU K 0))))))
  (ac (am (az xX (pv 5) (aQ (aV (dG Sr PySem.F.slot_list_index PySem.F.type_list_index F9 (pv 5) (aV (aJ (K6 rfl) (by rfl) T.m9 Tj (aV (pv 5))))))))))))))
 obtain ⟨so,ho,hstr,_⟩:=R.obj;rfl';refine #[k,rfl,λq1=>?_,λq=>h.no R fU (bo (dO q)) (aj.refl _)];rfl';refine #[n,rfl,λq2=>?_,λq=>h.no R fU (bo (bW (bC q))) (aj.refl _)];rw [cy (wt q1 (be.mpr q2))] at h;obtain ⟨k,rfl⟩:=aT q1.1;obtain ⟨n,rfl⟩:=aT q2.1;rw [So] at h;rfl';refine #[O,pas,st,k,rfl,R,by omega,λe sa he hs hl=>?_,λhe=>h.no R Kf (by rw [he]) (aj.refl _)];rw [he] at h;dsimp only at h;generalize hf:(λa=>endAt st e a n)=f at h;have hlands:=R.lands;rfl';refine ay ho T.aN T.cT rfl ?_;rfl';intro D hD;refine pk (xs:=pas.map λz=>V.ref z.1) (λi H'=>c8 c (dS O pas) pas H st H'/\∃l,H' D=some (.lst (l.map nI))/\allSome ((SR i).map f)=some l/\l.length=i) #[R.k0.same (aj.upd hD),[],ae,rfl,rfl] (λi H' _ h=>cB.of (h.1.nd _ _ hlands trivial)) ?_ ?_
 .rintro i y H' hy ⟨K1,l,hD1,hl1,hl2⟩;obtain ⟨z,hz,rfl⟩:=ee hy;have hi:i<4:=by have:=((Sl).mp hz).1;rw [R.Ht] at this;exact this
  obtain ⟨ca,hE,fin⟩:=K1.ends R hi hz hs hl hstr (s:=n) (by omega);have ho1:=K1.nd _ _ ho trivial;rfl';refine #[rfl,?_];rfl';refine ay ho1 T.aN T.aK rfl ?_;rfl';have hfi:f i=endOf (landAt st i) st.stops n e:=by rw [<-hf];rfl
  refine #[_,sa,so,z.1,ca,z.2,_,e,_,n,rfl,hE,λd hd H1 C1 kp1=>?_,λhd H1 C1 kp1=>h.err _ _ _ Rc ?_ (fin H1 C1 kp1)]
  .have hD2:=kp1.get hE.ll hD1 λ_ z=>nomatch z;refine #[_,hD2,by rw [w4];exact aI (by omega),(fin H1 C1 kp1).put hD hD2 R.fs,l++[d],by rw [ae,Sw];rfl,?_,by rw [Sq,hl2];rfl];rw [Uq,kL,hl1,hfi,hd];rfl
  .rw [kM (f:=f) (SR 4) (x:=i) ((TU).mpr hi) (hfi.trans hd)]
 .rintro H' ⟨K1,l,hD1,hl1,hl2⟩;rw [w4,R.Ht] at hl1 hl2;rw [hl1] at h;dsimp only at h;rw [MY] at hD1;have hne:l≠[]:=λz=>by rw [z] at hl2;cases hl2
  have hm:=JN hne;have hML:=(Ec l 0).2;generalize hM:l.foldl max 0=mx at h hm hML;rfl';refine #[D,Sz l,rfl,cB.of hD1,by unfold Sz;rw [w4,hl2];decide,λm hm1 hm2=>?_];have em:m=(mx:Nat):=by unfold Sz at hm1 hm2;obtain ⟨y,hy,rfl⟩:=(Te).mp hm1;have h1:=hML y hy;have h2:=hm2 (mx:Nat) ((Te).mpr #[mx,hm,rfl]);omega
  subst em;have hlt:l.idxOf mx<l.length:=List.idxOf_lt_length_of_mem hm;have hfl:((Sz l).map V.int).all fV=true:=(Th).mpr λx hx=>by obtain ⟨y,_,rfl⟩:=(Te).mp hx;rfl
  rfl';refine #[D,_,_,l.idxOf mx,.int (mx:Nat),rfl,rfl,cB.of hD1,rfl,hfl,?_,?_,λm z hm hz=>?_,?_]
  .unfold Sz;rw [SO,SO,Ss hlt,List.getElem_idxOf];rfl
  .show ((mx:Int)==(mx:Int))=true;simp
  .unfold Sz at hz;rw [T2] at hz;obtain ⟨x,hx,rfl⟩:=ee hz;show ((x:Int)==(mx:Int))=false;rw [beq_eq_false_iff_ne];intro q;have q:x=mx:=by omega
   subst q;obtain ⟨h2,h3⟩:=(Sl).mp hx;have h4:=List.not_of_lt_findIdx (xs:=l) (p:=(·==x)) (i:=m) hm;rw [h3] at h4;simp at h4
  .rfl';refine #[by show 1<=sizeLine;decide,λx hx=>?_];refine DQ (aj.upd hx _ _ hD1) ae (by unfold Sz;rw [w4,w4,hl2];show 5<=sizeLine;decide) λy hy=>?_;refine h.yes R (l:=Sz (l++[l.idxOf mx])) rfl ((K1.same (aj.upd hx)).same (aj.upd hy)) ?_ ?_ ((R.again (K1.same (aj.upd hx))).ng hy)
   .rw [ae];unfold Sz;rw [Sw,Sw];rfl
   .unfold Sz;rw [w4,Sq,hl2];show 5<=1000;decide
theorem zf:al ["number"] ["number"] (ah (top 134)):=by ext
noncomputable def zg (c:Cl):Sp:=yj λ(n:Int) vs H Q E=>vs=[.int n]/\((0<=n/\n<=9)->Q (.int n) H)/\(¬(0<=n/\n<=9)->E (.ref c.a8) none H)
theorem kT (T:Tx):FO (cf P w) 2 "told_kind" ["number"] (zg c):=by refine T.zQ.gX zf (by ext) λ_ _ _ _ _ H vs Q E hr h=>?_;obtain ⟨n,rfl,k1,k2⟩:=h;exists (ac (am (bK (bE T) hr.m (dH (pv 0) ag (gI 9 T.zO rfl)))));rfl';exact #[n,0,9,rfl,k1,k2]
theorem uQ:al ["number"] ["number"] (ah (top 135)):=by ext
noncomputable def uR (c:Cl):Sp:=yj λ(n:Int) vs H Q E=>vs=[.int n]/\((1440<=n/\n<=210378240)->Q (.int n) H)/\(¬(1440<=n/\n<=210378240)->E (.ref c.a8) none H)
theorem mj (T:Tx):FO (cf P w) 2 "told_minute" ["number"] (uR c):=by refine T.vn.gX uQ (by ext) λ_ _ _ _ _ H vs Q E hr h=>?_;obtain ⟨n,rfl,k1,k2⟩:=h;exists (ac (am (bK (bE T) hr.m (dH (pv 0) (gI 1440 T.sQ rfl) (gI 210378240 T.vm rfl)))));rfl';exact #[n,1440,210378240,rfl,k1,k2]
theorem zh:al ["land","minute"] ["land","minute"] (ah (top 136)):=by ext
noncomputable def zi (c:Cl):Sp:=Au λ(la a:KE) (x:Land) (m:Nat) vs H Q _=>vs=[.ref la,.int (m:Nat)]/\iG c H la a x/\Q (.int (dayThere x m)) H
theorem pO (T:Tx):FO d8 1 "day_there" ["land","minute"] (zi c):=by refine T.zR.g zh (by ext) λ_ _ _ _ _ H vs Q E hr h=>?_;obtain ⟨la,a,x,m,rfl,hL,k⟩:=h;exists (ac (am (az eI (az aP (pv 1) (aq (pv 0) rfl)) (gI 1440 T.jH rfl))));obtain ⟨dx,t,hl,ht⟩:=hL;rfl';refine ay hl T.cn T.gn rfl ?_;rfl';refine IL #[by decide,by decide] ?_;exact k
theorem wk:al ["day","begin","end"] ["day","begin","end"] (ah (top 143)):=by ext
noncomputable def Ki (d:Int) (s:Nat):Option Nat->Bool
 |none=>false
 |some e=>decide ((s:Int)<=d/\d<=(e:Int))
noncomputable def wl:Sp:=Fu λ(d:Int) (s:Nat) (e:Option Nat) vs H Q _=>vs=[.int d,.int (s:Nat),oV e]/\Q (.bl (Ki d s e)) H
theorem wm (T:Tx):FO d8 1 "is_in_time" ["day","begin","end"] wl:=by
 refine T.xD.g wk (by ext) λ_ _ _ _ _ H vs Q E hr h=>?_;obtain ⟨d,s0,e,rfl,k⟩:=h;exists (ac (am (xL (iQ oX (pv 2) dv (aE _)) (sX (FW wv wv (pv 1) (pv 0) (pv 2))))));cases e with
 |none=>simp only [oV];rfl';exact k
 |some e=>
  simp only [oV];rfl';by_cases h1:(s0:Int)<=d
  .rw [if_pos h1];rfl';have e2:decide (d<=(e:Int))=Ki d s0 (some e):=by
    show _=decide ((s0:Int)<=d/\d<=(e:Int));by_cases h2:d<=(e:Int)
    .rw [decide_eq_true h2,decide_eq_true ⟨h1,h2⟩]
    .rw [decide_eq_false h2,decide_eq_false (λz=>h2 z.2)]
   rw [e2];exact k
  .rw [if_neg h1];rfl';have e2:Ki d s0 (some e)=false:=decide_eq_false λz=>h1 z.1;rw [e2] at k;exact k
theorem gL:al ["office","numbers","kind","place","act","number"] ["office","numbers"] (ah (top 137)):=by ext
noncomputable def BA (c:Cl):Sp:=pz c (λst ns=>step st [21::ns]) Dh
theorem BB (T:Tx):FO (cf P w) 3 "call_act" ["office","numbers"] (BA c):=by
 refine T.B8.gX gL (by ext) λ_ _ _ _ _ H vs Q E hr h=>?_;obtain ⟨O,pas,st,p,ns,rfl,R,hp,⟨k,a,m,rfl⟩,h⟩:=h;have hp:H p=some (.lst [.int k,.int a,.int m]):=hp;replace h:Out c O pas H st (step st [[21,k,a,m]]) Q E:=h;rw [MV] at h;exists (aa (bt 2 gL.nd (bK (kT T) hr.m (aV (cR (pv 1) ag))))
  (aa (bt 3 gL.nd (bK (bE T) hr.m (dH (cR (pv 1) ag) ag (gI 3 T.gA rfl))))
  (aa (bt 4 gL.nd (gF (Ms T) hr.m rfl bq (dH (pv 2) (pv 3) (bK (mj T) hr.m (aV (cR (pv 1) ag))))))
  (aa (bt 5 gL.nd (aJ cu (by rfl) T.eQ S0 (aV (aq (pv 0) rfl))))
  (aa (aL (aA DD (pv 5) (gI 30 T.zP rfl) (aE _)) (ac (bw newX rfl rfl T.nP T.j1)) aC)
  (aa (bA (dG Sr SD SF bD (aq (pv 0) rfl) (aV (pv 4))))
  (ac (am (aQ (aV (pv 5)))))))))))
 rfl';refine #[k,rfl,λq1=>?_,λq=>h.no R fU (bo (dO q)) (aj.refl _)];rfl';refine #[a,0,3,rfl,λq2=>?_,λq=>h.no R fU (bo (bW (dO q))) (aj.refl _)];rfl';refine #[m,rfl,λq3=>?_,λq=>h.no R fU (bo (bW (bW (bC q)))) (aj.refl _)];rw [cy (wt q1 (wt q2 (be.mpr q3)))] at h;obtain ⟨k,rfl⟩:=aT q1.1;obtain ⟨a,rfl⟩:=aT q2.1;obtain ⟨m,rfl⟩:=aT (by omega:0<=m);rw [So,So,So] at h;rfl';intro x dx hx hdx hne;refine #[x,dx,.int (k:Nat),.int (a:Nat),.int (m:Nat),rfl,ae,rfl,?_];have s4:aj H (upd (upd (upd H dx (.own x)) x (.ins c.Act dx [])) x (.ins c.Act dx [("kind",.int (k:Nat)),("place",.int (a:Nat)),("minute",.int (m:Nat))])):=by rw [bX];exact (aj.upd hdx).trans (aj.upd (by rw [ai hne.symm];exact hx))
 generalize hH3:upd (upd (upd H dx (.own x)) x (.ins c.Act dx [])) x (.ins c.Act dx [("kind",.int (k:Nat)),("place",.int (a:Nat)),("minute",.int (m:Nat))])=H3 at s4;have hx3:H3 x=some (.ins c.Act dx [("kind",.int (k:Nat)),("place",.int (a:Nat)),("minute",.int (m:Nat))]):=by rw [<-hH3];exact ae
 have R3:=R.same s4;obtain ⟨so,ho,_⟩:=R3.obj;obtain ⟨xs,a1,a2⟩:=R3.acts;rfl';refine ay ho T.aN T.cH rfl ?_;rfl';rw [w4,a2.length];by_cases z:(30:Int)<=(st.acts.length:Nat)
 .rw [if_pos z];rw [if_pos (by omega)] at h;rfl';exact h.no R Rb rfl s4
 .rw [if_neg z];rw [if_neg (by omega)] at h;rfl';refine ay ho T.aN T.cH rfl ?_;rfl';refine bN a1 (by rw [w4,a2.length];exact aI (by omega)) ?_;have R4:=R3.Mu a1 a2 (p:=x) (x:=#[k,a,m]) #[#[dx,hx3],by show k<=9;omega,by show a<=3;omega,by show 1440<=m;omega,by show m<=210378240;omega] (by omega);rfl';refine #[by show 1<=sizeLine;decide,λy hy=>?_];exact h.ret _ y _ (R4.same (aj.upd hy)) (((vR.upd (.inr (.inr rfl))).pre s4).same (aj.upd hy)) ae w8 (R4.ng hy)
noncomputable def MZ (l:List Uw):List Int:=Sz (l.flatMap λx=>[x.kind,x.land,x.minute])
theorem HL (l:List Uw) (x:Uw):MZ (l++[x])=MZ l++[(x.kind:Int),(x.land:Int),(x.minute:Int)]:=by unfold MZ Sz;rw [List.flatMap_append,Sw];rfl
theorem zj:∀l:List Uw,(MZ l).length=3*l.length
 |[]=>rfl
 |x::l=>by have ih:=zj l;unfold MZ Sz at ih ⊢;rw [List.flatMap_cons,Sw,Sq,ih,Si];simp;omega
theorem kU:al ["office","numbers","answer","act"] ["office","numbers"] (ah (top 138)):=by ext
noncomputable def zk (c:Cl):Sp:=pz c (λst ns=>step st [22::ns]) (λns=>ns=[])
theorem zl (T:Tx):FO (cf P w) 1 "call_acts" ["office","numbers"] (zk c):=by
 refine T.zS.gX kU (by ext) λ_ _ _ _ _ H vs Q E hr h=>?_;obtain ⟨O,pas,st,p,ns,rfl,R,hp,rfl,h⟩:=h;replace h:Out c O pas H st (step st [[22]]) Q E:=h;rw [MW] at h;exists (aa (bt 2 kU.nd (aQ (aV (aJ cu (by rfl) T.eQ S0 (aV (aq (pv 0) rfl))))))
  (aa (cp Ta rfl (cb (aq (pv 0) rfl)) (bg (i:=3) kU.nd rfl (by first|exact Tk rfl|exact Tp rfl)) (ac (bA (dG Sr T5 UG wC (pv 2) (aV (aQ (dH (aq (pv 3) rfl) (aq (pv 3) rfl) (aq (pv 3) rfl))))))))
  (ac (am (pv 2)))))
 obtain ⟨so,ho,hs,_⟩:=R.obj;obtain ⟨xs,a1,a2⟩:=R.acts;have hl:=R.Dg;rfl';refine ay ho T.aN T.cH rfl ?_;rfl';rw [w4,a2.length];refine #[by show 1<=sizeLine;decide,λx hx=>?_];have h3:=aj.upd (o:=.lst [.int (st.acts.length:Nat)]) hx _ _ a1;rfl';refine ay (aj.upd hx _ _ ho) T.aN T.cH rfl ?_;rfl';refine bR (xs:=xs.map V.ref) (λi σ' H'=>aj H H'/\H' x=some (.lst (V.int (st.acts.length:Nat)::(MZ (st.acts.take i)).map V.int))/\∃v,σ'=[some (.ref O.o),some (.ref p),some (.ref x),v]) #[aj.upd hx,ae,_,rfl] (λi σ' H' _ h=>cB.of (h.1 _ _ a1)) ?_ ?_
 .rintro i y σ' H' hy ⟨s2,hx2,v,rfl⟩;obtain ⟨u,hu,rfl⟩:=fg hy;obtain ⟨w,hw,⟨dx,hR⟩,_⟩:=a2.get hu;have hlt:i<st.acts.length:=((Sl).mp hw).1;have hR2:=s2 _ _ hR;rfl';refine ay hR2 T.gO T.lv rfl ?_;rfl';refine ay hR2 T.gO T.fJ rfl ?_;rfl';refine ay hR2 T.gO T.gp rfl ?_;rfl';refine #[by show 3<=sizeLine;decide,λy hy=>?_];rfl';refine qv (aj.upd hy _ _ hx2) ae ?_ ?_
  .rw [Si,w4,zj,S8];exact T6 (aI (by show _+3<=_;omega))
  .refine #[λb o e=>?_,?_,_,rfl]
   .rw [ai (ak e hx)];exact aj.upd hy _ _ (s2 b o e)
   .rw [ae,take_snoc hw,HL,Sw];rfl
 .rintro σ' H' ⟨s2,hx2,v,rfl⟩;rw [w4,a2.length,SX] at hx2;rfl';refine h.yes R rfl (R.k0.same s2) ?_ ?_ (R.ng hx)
  .rw [hx2];rfl
  .show (MZ st.acts).length+1<=1000;rw [zj];omega
theorem jB:al ["office","numbers","land","minute"] ["office","numbers"] (ah (top 144)):=by ext
noncomputable def wn (c:Cl):Sp:=pz c (λst ns=>step st [25::ns]) vS
theorem wo (T:Tx):FO (cf P w) 3 "call_clock" ["office","numbers"] (wn c):=by
 refine T.xE.gX jB (by ext) λ_ _ _ _ _ H vs Q E hr h=>?_;obtain ⟨O,pas,st,p,ns,rfl,R,hp,⟨a,m,rfl⟩,h⟩:=h;have hp:H p=some (.lst [.int a,.int m]):=hp;replace h:Out c O pas H st (step st [[25,a,m]]) Q E:=h;rw [MX] at h;exists (aa (bt 2 jB.nd (bK (bP T) hr.m (cz (pv 0) (cR (pv 1) ag))))
  (aa (bt 3 jB.nd (bK (mj T) hr.m (aV (cR (pv 1) ag))))
  (ac (am (aQ (cz (fW (pO T) hr.m (cz (pv 2) (pv 3))) (az fM (az aP (pv 3) (aq (pv 2) rfl)) (gI 1440 T.jH rfl))))))))
 rfl';refine #[O,pas,st,a,rfl,R,λj z ej hj hz=>?_,λq=>h.no R fU (bo (dO q)) (aj.refl _)];subst ej;rfl';refine #[m,rfl,λq3=>?_,λq=>h.no R fU (bo (bW (bC q))) (aj.refl _)];rw [cy (wt (by omega) (be.mpr q3))] at h;obtain ⟨m,rfl⟩:=aT (by omega:0<=m);rw [So] at h;obtain ⟨ca,hL,_⟩:=R.ll hj hz;obtain ⟨dx,t,hl,ht⟩:=id hL;rfl';refine #[z.1,ca,landAt st j,m,rfl,hL,?_];rfl';refine ay hl T.cn T.gn rfl ?_;rfl';refine IL (by show (0:Int)<1440;decide) ?_;rfl';refine #[by show 2<=sizeLine;decide,λy hy=>?_];exact h.yes R rfl (R.k0.same (aj.upd hy)) ae Re (R.ng hy)
end
theorem wp.R_ {P:SN} {w:S_} {K:UT} {mg:Str->Option UU} {base:Ti} {x qual:Str} {st:Stmt} {f:KE} {fd:Uf} {N ps:List Str} {k:Nat} {sp:Sp} (F:wp K x qual st f fd) (S:al N ps (ah st)) (len:∀vs H Q E,sp vs H Q E->vs.length=ps.length)
 (hbody:∀(A:Tl) (outer:List Env) (s:Se) (H:Hp) (vs:List V) (Q:VK) (E:XK),cE k (A.deeper (envOfC qual (ah st) s.heap.objs.size f fd.code))->sp vs H Q E->
  ∃t,uY (fj d8 P w K mg base N qual (ah st) f fd.code A outer s H E).FH (bL st) t/\t {nx:=λ_ H'=>Q .bZ H',rt:=Q} (L2.start N vs) H):gE P w K mg base d8 (k+1) f fd ps sp:=by
 obtain ⟨oc,od,kV,doc,pm,an,cdv,ct,osl,rfl,lk,hcd⟩:=F.ex;refine F4 lk hcd S len λA outer s H vs Q E hr hsp=>?_;obtain ⟨t,h,q⟩:=hbody A outer s H vs Q E hr hsp;exact #[t,h.FH,q]
theorem Dr (K:UT) {k:Nat} (hK:X.K=K) (n0:X.N[0]? =some x) (n1:X.N[1]? =some y) (v0:Ib X.env.scope x) (v1:Ib X.env.scope y) (d0:(x==("__debug__" :Str))=false) (d1:(y==("__debug__" :Str))=false) (c0:(x==("__classdict__" :Str))=false) (c1:(y==("__classdict__" :Str))=false):
 PE X (.Tuple [.Attribute (.Subscript (.Name y p1) (.Name x p2) p3) f p4,.Name x p5] k p6) (F0 (fN (EC K (Ih (F7 K) (nU 1) (nU 0)) f) (fN (nU 0) ly))):=by
 subst hK;exact gQ (cz (aq (cR (pv 1 n1 v1 d1 c1) (pv 0 n0 v0 d0 c0)) rfl) (pv 0 n0 v0 d0 c0))
theorem Fi {L C:Int} {yi:Nat} (h:tr σ H λv H1=>tU T L C q yi tb σ v H1 Q):At T L C q yi tr tb σ H Q:=h
theorem JO (h:([("number",Ue.local),("acts",UE)]:List (Str×Ue)).lookup x=some .free):x= "acts" :=by
 rw [Tn] at h;cases e:x==("number" :Str) with
 |true=>rw [e] at h;cases h
 |false=>
  rw [e] at h;simp only [] at h;rw [Tn] at h;cases e2:x==("acts" :Str) with
  |true=>exact eq_of_beq e2
  |false=>rw [e2] at h;cases h
section
theorem mn:al ["acts"] ["acts"] (ah (top 142)):=by ext
noncomputable def Ds (c:Cl):Sp:=Fu λ(p:KE) (xs:List KE) (acts:List Uw) vs H Q _=>vs=[.ref p]/\H p=some (.lst (xs.map V.ref))/\cC (vQ c H) xs acts/\acts.length<=30/\mT c H/\
 ∀(is:List Nat) (H':Hp) (D:KE),is.Perm (SR acts.length)->is.Pairwise (CU acts)->(∀b o,H b=some o->b≠c.tab->H' b=some o)->mT c H'->H' D=some (.lst (is.map λi=>V.int (i:Nat)))->Q (.ref D) H'
theorem mo (T:Tx) (hN:jS K mg base c.tab):FO d8 3 "numbers_by_minute" ["acts"] (Ds c):=by
 obtain ⟨f,fd,e,F⟩:=T.mP;refine #[f,fd,e,F.kp,F.binds (λ_ _ _ _ _ _=>IR λ_=>rfl),wp.R_ F mn (λvs H Q E h=>by obtain ⟨p,xs,acts,rfl,_⟩:=h;rfl) (λA outer s H vs Q E hr h=>?_)];obtain ⟨p,xs,acts,rfl,hp,hx,hl,hT,k⟩:=h;obtain ⟨cc,hcc,hCH⟩:∃cc,fd.code= .ref cc/\PySem.W.CodeHd base cc c.tab:=by obtain ⟨oc,od,kV,doc,pm,an,cdv,ct,osl,e1,lk,_⟩:=F.ex;exact hN.code f _ _ fd _ e (by rw [lk,e1])
 refine #[_,ac (am (CM (T:=c.tab) (cc:=cc) (c0:=s.heap.objs.size+1) (L:=678) (C:=40) (q:=OP) (x0:="number") (y0:="acts") (yi:=0) hr rfl rfl rfl T.zp #[rfl,hcc,hCH,hN.bm,rfl,rfl,rfl,λ_=>rfl,rfl] #[rfl,rfl,rfl,by decide,rfl,rfl,λx h=>JO h,by decide,λ_ _ _ _ _ _ _=>rfl] rfl rfl rfl
  (ik wP (by rfl) T.hX boot_range (aV (aJ cu (by rfl) T.eQ S0 (aV (pv 0)))))
  (λ_ _ _ _ _ _=>Dr K rfl rfl rfl (Tk rfl) (Tp (Tp rfl)) (by decide) (by decide) (by decide) (by decide)))),?_]
 obtain ⟨ps,hT1,hT2⟩:=hT;have hlen:(xs.map V.ref).length=acts.length:=by rw [w4,hx.length]
 rfl';refine Fi ?_;rfl';refine #[acts.length,by rw [hlen],by omega,λr hr=>?_];have s1:aj H (upd H r (.Fq 0 (acts.length:Nat))):=aj.upd hr;have TR:mT c (upd H r (.Fq 0 (acts.length:Nat))):=mT.to #[ps,hT1,hT2] (λps e=>s1 _ _ e) λb φ e=>s1 _ _ e;obtain ⟨ps1,hT3,hT4⟩:=TR;refine #[r,acts.length,ps1,λi=>((cZ acts i:Nat),(i:Nat)),.ref p,rfl,ae,by omega,rfl,hT3,hT4,λi hi H2 kp=>?_,λis H' D q1 q2 kp tb hD=>?_]
 .have nt:∀{b o},H b=some o->Nd o->H2 b=some o:=λ{b o} e n=>kp b o (s1 b o e) λz=>by rw [z,hT1] at e;exact n.t _ (Sd e).symm
  have hi2:i<xs.length:=by rw [hx.length];exact hi
  obtain ⟨y,hy,⟨dx,hR⟩,_⟩:=hx.get (Ss hi2);have hR2:=nt hR trivial;have hp2:=nt hp trivial;have hm:cZ acts i=y.minute:=by unfold cZ;rw [hy];rfl
  rfl';refine oW (cB.of hp2) (v:=.ref xs[i]) (mF (by omega) (by rw [So,SO,Ss hi2];rfl)) ?_;refine ay hR2 T.gO T.gp rfl ?_;rfl';refine #[by show 2<=sizeLine;decide,λq hq=>#[q,rfl,aj.upd hq,?_]];show upd H2 q _ q=some (.tup [.int ((cZ acts i:Nat):Int),.int ((i:Nat):Int)]);rw [ae,hm]
 .exact k is H' D q1 (q2.imp λ{i j} h=>by unfold vy at h;unfold CU;dsimp only at h;omega) (λb o e n=>kp b o (s1 b o e) n) tb hD
end
section
variable {O:OA} {M M':KE->Prop} {pas:List (KE×CA)} {H H1 H2:Hp} {st:State} {a D:KE} {A:CA} {k:Calendar}
theorem bz.tabs (R:bz c M H a A k) (s:∀b o,H b=some o->(∀ps,o≠.jC ps)->H1 b=some o):bz c M H1 a A k:=by
 have ks:∀{b p},eZ H b p->eZ H1 b p:=λ{b p} h=>let ⟨kvs,e,q⟩:=h;⟨kvs,s _ _ e nofun,q⟩
 refine #[s _ _ R.obj nofun,ks R.rest,?_,ks R.shut,ks R.opened,?_,?_,λb hb=>let ⟨kvs,e⟩:=R.mm b hb;⟨kvs,s _ _ e nofun⟩,R.nr,R.ns,R.Hk,R.Jq,R.Kb,R.ne,R.ok,R.rW]
 .obtain ⟨ps,h1,h2⟩:=R.feasts;exact #[ps,s _ _ h1 nofun,h2.imp λp f h=>h.same (λb C dx fs e=>s _ _ e nofun) λb xs e=>s _ _ e nofun]
 .obtain ⟨kvs,e1,e2,h3⟩:=R.cl;refine #[kvs,s _ _ e1 nofun,e2,λy v h=>?_];obtain ⟨d,e,nm,q⟩:=h3 y v h;exact #[d,e,nm,ks q]
 .obtain ⟨kvs,e1,e2,h3⟩:=R.no;exact #[kvs,s _ _ e1 nofun,e2,h3]
theorem c8.lam (K:c8 c M pas H st H1) (s:∀b o,H1 b=some o->b≠c.tab->H2 b=some o) (t:mT c H2):c8 c M pas H st H2:=by
 have s':∀b o,H1 b=some o->(∀ps,o≠.jC ps)->H2 b=some o:=λb o e n=>s b o e λz=>by obtain ⟨ps,q,_⟩:=K.tab;rw [z,q] at e;exact n ps (Sd e).symm
 exact #[λb o e n n2=>s b o (K.kp b o e n n2) n2,λj z x h1 h2=>let ⟨a,q1,q2,q3⟩:=K.ll j z x h1 h2;⟨a,q1,q2.tabs s',q3⟩,K.mem,K.dd,t,K.tb]
noncomputable abbrev MD (O:OA) (pas:List (KE×CA)) (D b:KE):Prop:=dS O pas b\/b=D
theorem bI.kD (R:bI c O pas H st) (hD:H D=none):c8 c (MD O pas D) pas H st (upd H D (.dK [])):=by
 have s:aj H (upd H D (.dK [])):=aj.upd hD;refine #[λb o e _ _=>s b o e,λj z x h1 h2=>?_,λb h=>.inl (.inl h),λb hb o e=>?_,R.tab.to (λps e=>s _ _ e) λb φ e=>s _ _ e,let ⟨ps,e,_⟩:=R.tab;⟨ps,e⟩]
 .obtain ⟨a,q1,q2,q3⟩:=R.each.at h1 h2;refine #[a,q1,q2.move s (λb hb=>hb.imp id λe=>by rw [e];exact hD) (.inl q2.Jq) (.inl q2.Kb) λb hb=>?_,q3];rcases hb with hb|rfl
  .obtain ⟨kvs,e⟩:=R.dict b hb;exact #[kvs,s _ _ e]
  .exact #[[],ae]
 .rcases hb with hb|rfl
  .obtain ⟨kvs,e2⟩:=R.dict b hb;rw [e] at e2;exact #[kvs,Sd e2]
  .rw [hD] at e;cases e
theorem c8.putD (K:c8 c (MD O pas D) pas H st H1) (R:bI c O pas H st) (hD:H D=none) (h:H1 D=some (.dK kvs)):c8 c (MD O pas D) pas H st (upd H1 D (.dK kvs')):=by
 refine #[λb o e n n2=>by rw [ai (ak e hD)];exact K.kp b o e n n2,λj z x h1 h2=>?_,K.mem,K.dd,K.tab.to (λps e=>by rw [ai (aX e h nofun)];exact e) λb φ e=>by rw [ai (aX e h nofun)];exact e,K.tb];obtain ⟨a,q1,q2,q3⟩:=K.ll j z x h1 h2;have hz:=SE h1;obtain ⟨k1,e1⟩:=R.dict z.2.cl (.inl #[z,hz,.inl rfl]);obtain ⟨k2,e2⟩:=R.dict z.2.no (.inl #[z,hz,.inr rfl]);refine #[a,q1,q2.keep (λb o e n=>by rw [ai (λz=>n (.inr z))];exact e) (λo e=>by rw [ai (ak e1 hD)];exact e) (λo e=>by rw [ai (ak e2 hD)];exact e) λb hb=>?_,q3];by_cases e:b=D
 .rw [e];exact #[kvs',ae]
 .obtain ⟨kb,eb⟩:=q2.mm b hb;exact #[kb,by rw [ai e];exact eb]
theorem c8.less (K:c8 c (MD O pas D) pas H st H1):c8 c (dS O pas) pas H st H1:=
 #[K.kp,λj z x h1 h2=>let ⟨a,q1,q2,q3⟩:=K.ll j z x h1 h2;⟨a,q1,q2.less (λb hb=>.inl hb) (.inl ⟨z,SE h1,.inl rfl⟩) (.inl ⟨z,SE h1,.inr rfl⟩),q3⟩,λb h=>.inl h,λb hb o e=>K.dd b (.inl hb) o e,K.tab,K.tb]
end
noncomputable def Fj (st:State) (e:Limit) (s kd:Nat) (places:List Nat) (x:Uw):Bool:=x.kind==kd&&(places.contains x.land&&Ki (dayThere (landAt st x.land) x.minute) s (endOf (landAt st x.land) st.stops s e))
noncomputable def uS (st:State):Option Nat->List Int
 |none=>[0]
 |some j=>actNumbers st j
section
theorem cD:al ["office","steps","begin","kind","land_places","ends","place","number","act","day"] ["office","steps","begin","kind","land_places"] (ah (top 141)):=by ext
noncomputable def qP (c:Cl):Sp:=Q4 λ(O:OA) (pas:List (KE×CA)) (st:State) (sa lp:KE) (e:Limit) (s kd:Nat) (places:List Nat) vs H Q _=>vs=[.ref O.o,.ref sa,.int (s:Nat),.int (kd:Nat),.ref lp]/\bI c O pas H st/\gl H sa (post e)/\(post e).length<=100/\s<=146096/\H lp=some (.lst (places.map nI))/\(∀j∈places,j<4)/\places.length<=4/\
 ∀H' q,c8 c (dS O pas) pas H st H'->H' q=some (.lst ((uS st (firstAct st.acts (Fj st e s kd places))).map V.int))->q≠O.G->Q (.ref q) H'
theorem jZ (T:Tx) (hN:jS K mg base c.tab):FO d8 16 "first_in_time" ["office","steps","begin","kind","land_places"] (qP c):=by
 refine T.rJ.g cD (by ext) λ_ _ _ _ s H vs Q E hr h=>?_;obtain ⟨O,pas,st,sa,lp,e,s0,kd,places,rfl,R,hs,hl,hs0,hlp,hpl,hpn,k⟩:=h;have hu:=ir hr;exists (aa (bt 5 cD.nd eY)
  (aa (cp Tb rfl (cb (pv 4)) (bg (i:=6) cD.nd rfl (by first|exact Tk rfl|exact Tp rfl)) (ac (gt hu (pv 5) (pv 6) (fW (fS T) hr.m (bY (pv 1) (dH (pv 2) (cR (aq (pv 0) rfl) (pv 6)) (aq (pv 0) rfl)))) rfl)))
  (aa (cp Tb rfl (cb (fW (mo T hN) hr.m (aV (aq (pv 0) rfl)))) (bg (i:=7) cD.nd rfl (by first|exact Tk rfl|exact Tp rfl)) (aa (bt 8 cD.nd (cR (aq (pv 0) rfl) (pv 7)))
  (ac (aL (PW.pt (sW (aA dF (aq (pv 8) rfl) (pv 3) (aE _)) (oG (fh (nX hu (aq (pv 8) rfl) (pv 5)) rfl)))) (aa (bt 9 cD.nd (fW (pO T) hr.m (cz (cR (aq (pv 0) rfl) (aq (pv 8) rfl)) (aq (pv 8) rfl))))
  (ac (aL (c9 (fW (wm T) hr.m (dH (pv 9) (pv 2) (oQ hu (pv 5) (aq (pv 8) rfl) (λ_ _=>rfl))))) (ac (am (aQ (dH ag (pv 7) (pv 9))))) aC))) aC))))
  (ac (am (aQ (aV ag)))))))
 obtain ⟨so,ho,hstr,_⟩:=R.obj;obtain ⟨xs,a1,a2⟩:=R.acts;have hlands:=R.lands;rfl';refine IU λD hD=>?_;have K0:=R.kD hD;have hlp0:=K0.nd _ _ hlp trivial;rfl';refine bR (xs:=places.map nI) (λi σ' H'=>c8 c (MD O pas D) pas H st H'/\∃kvs v,H' D=some (.dK kvs)/\kvs.length<=i/\(∀n:Nat,aY kvs (.inl (n:Int))=if n∈places.take i then some (oV (endOf (landAt st n) st.stops s0 e)) else none)/\σ'=[some (.ref O.o),some (.ref sa),some (.int (s0:Nat)),some (.int (kd:Nat)),some (.ref lp),some (.ref D),v,none,none,none]) #[K0,[],_,ae,Sf _,λn=>rfl,rfl] (λi σ' H' _ h=>cB.of (h.1.nd _ _ hlp trivial)) ?_ ?_
 .rintro i y σ' H' hy ⟨K1,kvs,v,hk1,hk2,hk3,rfl⟩;obtain ⟨j,hj,rfl⟩:=ee hy;have hj4:=hpl j (fv hj);have hi4:i<4:=by have:=((Sl).mp hj).1;omega
  obtain ⟨z,x,hz,_⟩:=R.at hj4;obtain ⟨ca,hE,fin⟩:=K1.ends R hj4 hz hs hl hstr (s:=s0) hs0;have ho1:=K1.nd _ _ ho trivial;have hL1:=K1.nd _ _ hlands trivial;rfl';refine ay ho1 T.aN T.cT rfl ?_;rfl';refine oW (cB.of hL1) (v:=.ref z.1) (mF (by omega) (by rw [So,SO,hz];rfl)) ?_;rfl';refine ay ho1 T.aN T.aK rfl ?_;rfl';refine #[_,sa,so,z.1,ca,z.2,_,e,_,s0,rfl,hE,λH2 C2 kp2=>?_];have K2:=fin H2 C2 kp2;have hk4:H2 D=some (.dK kvs):=by have hz':=SE hz;obtain ⟨k1,e1⟩:=R.dict z.2.cl (.inl #[z,hz',.inl rfl]);obtain ⟨k2,e2⟩:=R.dict z.2.no (.inl #[z,hz',.inr rfl]);exact kp2 _ _ hk1 (ak e1 hD).symm (ak e2 hD).symm
  rfl';refine qu (n:=(j:Nat)) hk4 (aI (by omega)) ?_;refine #[K2.putD R hD hk4,_,_,ae,SA (A8 _) (Nat.succ_le_succ hk2),λn=>?_,rfl];rw [d7,take_snoc hj,hk3 n];by_cases zz:n=j
  .subst zz;rw [if_pos rfl,if_pos (by simp)]
  .rw [if_neg (λy=>zz (by have:=Ui y;omega))];simp [zz]
 .rintro σ' H' ⟨K1,kvs,v,hk1,hk2,hk3,rfl⟩;rw [w4,SX] at hk3;have ho1:=K1.nd _ _ ho trivial;have a3:=K1.nd _ _ a1 trivial;have a4:=a2.imp λp x h=>h.to K1.nd;rfl';refine ay ho1 T.aN T.cH rfl ?_;rfl';refine #[O.X,xs,st.acts,rfl,a3,a4,R.Dg,K1.tab,λis H2 q h1 h2 h3 h4 hq=>?_];have K2:=K1.lam h3 h4;have hk4:H2 D=some (.dK kvs):=h3 _ _ hk1 λz=>by obtain ⟨ps,e0,_⟩:=K1.tab;rw [z,e0] at hk1;cases hk1
  have ho2:=K2.nd _ _ ho trivial;have a5:=K2.nd _ _ a1 trivial;have hL2:=K2.nd _ _ hlands trivial;generalize a7:Fj st e s0 kd places=ok at k;rfl';refine bR (xs:=is.map λi=>V.int (i:Nat)) (λi σ' H'=>H'=H2/\(∀j∈is.take i,og st.acts ok j=false)/\∃v1 v2 v3,σ'=[some (.ref O.o),some (.ref sa),some (.int (s0:Nat)),some (.int (kd:Nat)),some (.ref lp),some (.ref D),v,v1,v2,v3]) #[rfl,(by simp),_,_,_,rfl] (λi σ' H' _ h=>by obtain ⟨rfl,_⟩:=h;exact cB.of hq) ?_ ?_
  .rintro i y σ' H' hy ⟨rfl,hno,v1,v2,v3,rfl⟩;obtain ⟨n,hn,rfl⟩:=ee hy;have hnl:n<st.acts.length:=(TU).mp (h1.mem_iff.mp (fv hn));have hnx:n<xs.length:=by rw [a2.length];exact hnl
   obtain ⟨x,hx,hR⟩:=a2.get (Ss hnx);obtain ⟨⟨dx,hR1⟩,hR2,hR3,hR4,hR5⟩:=hR.to K2.nd;have hokn:og st.acts ok n=ok x:=by unfold og;rw [hx];rfl
   have next:ok x=false->∀j∈is.take (i+1),og st.acts ok j=false:=λhf j hj=>by
    rw [take_snoc hn] at hj;rcases (SU).mp hj with hj|hj
    .exact hno j hj
    .rw [(SB).mp hj,hokn];exact hf
   obtain ⟨z,l,hz,_⟩:=R.at (n:=x.land) (by omega);obtain ⟨ca,hE,_⟩:=K2.ends R (j:=x.land) (by omega) hz hs hl hstr (s:=s0) hs0;rfl';refine ay ho2 T.aN T.cH rfl ?_;rfl';refine oW (cB.of a5) (v:=.ref xs[n]) (mF (by omega) (by rw [So,SO,Ss hnx];rfl)) ?_;rfl';refine ay hR1 T.gO T.lv rfl ?_;rfl';have hox:ok x=(x.kind==kd&&(places.contains x.land&&Ki (dayThere (landAt st x.land) x.minute) s0 (endOf (landAt st x.land) st.stops s0 e))):=by rw [<-a7];rfl
   by_cases c1:(x.kind:Int)=kd
   .rw [if_pos c1];have c1':x.kind=kd:=by omega
    rfl';refine ay hR1 T.gO T.fJ rfl ?_;rfl';rw [hk3 x.land];by_cases c2:x.land∈places
    .rw [if_pos c2];rfl';refine ay ho2 T.aN T.cT rfl ?_;rfl';refine ay hR1 T.gO T.fJ rfl ?_;refine oW (cB.of hL2) (v:=.ref z.1) (mF (by omega) (by rw [So,SO,hz];rfl)) ?_;rfl';refine ay hR1 T.gO T.gp rfl ?_;rfl';refine #[z.1,ca,landAt st x.land,x.minute,rfl,hE.land,?_];rfl';refine ay hR1 T.gO T.fJ rfl ?_;refine CI (n:=(x.land:Nat)) hk4 (by rw [hk3 x.land,if_pos c2]) ?_;rfl';refine #[_,s0,_,rfl,?_];rfl';have hox2:ok x=Ki (dayThere (landAt st x.land) x.minute) s0 (endOf (landAt st x.land) st.stops s0 e):=by rw [hox,c1',(TB).mpr c2];simp
     cases c3:Ki (dayThere (landAt st x.land) x.minute) s0 (endOf (landAt st x.land) st.stops s0 e) with
     |true=>rfl';refine #[by show 3<=sizeLine;decide,λy hy=>?_];refine k _ y (K2.less.same (aj.upd hy)) ?_ ((R.again K2.less).ng hy);rw [ae,vD h1 h2 hn hno (by rw [hokn,hox2,c3])];show _=some (HO.lst ((actNumbers st n).map V.int));unfold actNumbers;rw [hx];rfl
     |false=>rfl';exact #[rfl,next (by rw [hox2,c3]),_,_,_,rfl]
    .rw [if_neg c2];rfl';refine #[rfl,next ?_,_,_,_,rfl];rw [hox,show places.contains x.land=false by rw [<-Bool.not_eq_true,TB];exact c2];simp
   .rw [if_neg c1];rfl';refine #[rfl,next ?_,_,_,_,rfl];rw [hox,show (x.kind==kd)=false from beq_eq_false_iff_ne.mpr λz=>c1 (by rw [z])];rfl
  .rintro σ' H' ⟨rfl,hno,v1,v2,v3,rfl⟩;rw [w4,SX] at hno;rfl';refine #[by show 1<=sizeLine;decide,λy hy=>?_];refine k _ y (K2.less.same (aj.upd hy)) ?_ ((R.again K2.less).ng hy);rw [ae,vC h1 hno];rfl
end
theorem mq {ok ok':Uw->Bool} (h:∀x∈acts,ok x=ok' x):firstAct acts ok=firstAct acts ok':=by
 have e:∀i,og acts ok i=og acts ok' i:=λi=>by
  unfold og;cases q:acts[i]? with
  |none=>rfl
  |some x=>exact h x (SE q)
 refine qy (ok:=ok') ?_ (fO acts ok');have:=fO acts ok;cases q:firstAct acts ok with
 |none=>rw [q] at this;exact λi hi=>by rw [<-e i];exact this i hi
 |some j=>rw [q] at this;exact #[this.1,by rw [<-e j];exact this.2.1,λi hi ho=>this.2.2 i hi (by rw [e i];exact ho)]
theorem w_ (st:State) (e:Limit) (n a:Nat) (x:Uw):inTime st e n a x=Ki (dayThere (landAt st a) x.minute) n (endOf (landAt st a) st.stops n e):=by
 unfold inTime;cases endOf (landAt st a) st.stops n e with
 |none=>rfl
 |some d=>rfl
theorem xa (st:State) (o:Option Nat):(uS st o).length<=1000:=by
 cases o with
 |none=>show 1<=1000;decide
 |some j=>
  show (actNumbers st j).length<=1000;unfold actNumbers;cases st.acts[j]? with
  |none=>show 1<=1000;decide
  |some x=>show 3<=1000;decide
theorem xb (st:State) (o:Option Nat):(match o with
 |none=>(st,[0])
 |some j=>(st,actNumbers st j))=(st,uS st o):=by cases o<;>rfl
theorem M0 (st:State) (k a n i:Int):step st [[23,k,a,n,i]]=if (Sm k 0 5&&(Sm a 0 3&&(Sm n 0 146096&&Sm i 0 9)))=false then (st,[-1]) else match limitAt st k with
 |none=>(st,[-8])
 |some e=>(match firstAct st.acts (λx=>x.kind==i.toNat&&(x.land==a.toNat&&inTime st e n.toNat a.toNat x)) with
  |none=>(st,[0])
  |some j=>(st,actNumbers st j)):=rfl
theorem M1 (st:State) (k n i:Int):step st [[24,k,n,i]]=if (Sm k 0 5&&(Sm n 0 146096&&Sm i 0 9))=false then (st,[-1]) else match limitAt st k with
 |none=>(st,[-8])
 |some e=>(match firstAct st.acts (λx=>x.kind==i.toNat&&inTime st e n.toNat x.land x) with
  |none=>(st,[0])
  |some j=>(st,actNumbers st j)):=rfl
noncomputable def Rl (ns:List Int):Prop:=∃k a n i,ns=[k,a,n,i]
section
theorem gM:al ["office","numbers","place","land_place","begin","kind"] ["office","numbers"] (ah (top 139)):=by ext
noncomputable def BC (c:Cl):Sp:=pz c (λst ns=>step st [23::ns]) Rl
theorem BD (T:Tx) (hN:jS K mg base c.tab):FO (cf P w) 17 "call_met" ["office","numbers"] (BC c):=by
 refine T.B9.gX gM (by ext) λ_ _ _ _ _ H vs Q E hr h=>?_;obtain ⟨O,pas,st,p,ns,rfl,R,hp,⟨k,a,n,i,rfl⟩,h⟩:=h;have hp:H p=some (.lst [.int k,.int a,.int n,.int i]):=hp;replace h:Out c O pas H st (step st [[23,k,a,n,i]]) Q E:=h;rw [M0] at h;exists (aa (bt 2 gM.nd (bK (cA T) hr.m (aV (cR (pv 1) ag))))
  (aa (bt 3 gM.nd (bK (bE T) hr.m (dH (cR (pv 1) ag) ag (gI 3 T.gA rfl))))
  (aa (bt 4 gM.nd (bK (aZ T) hr.m (aV (cR (pv 1) ag))))
  (aa (bt 5 gM.nd (bK (kT T) hr.m (aV (cR (pv 1) ag))))
  (ac (am (fW (jZ T hN) hr.m (bY (pv 0) (bY (bK (eD T) hr.m (cz (pv 0) (pv 2))) (dH (pv 4) (pv 5) (aQ (aV (pv 3)))))))))))))
 rfl';refine #[k,rfl,λq1=>?_,λq=>h.no R fU (bo (dO q)) (aj.refl _)];rfl';refine #[a,0,3,rfl,λq2=>?_,λq=>h.no R fU (bo (bW (dO q))) (aj.refl _)];rfl';refine #[n,rfl,λq3=>?_,λq=>h.no R fU (bo (bW (bW (dO q)))) (aj.refl _)];rfl';refine #[i,rfl,λq4=>?_,λq=>h.no R fU (bo (bW (bW (bW (bC q))))) (aj.refl _)];rw [cy (wt q1 (wt q2 (wt q3 (be.mpr q4))))] at h;obtain ⟨k,rfl⟩:=aT q1.1;obtain ⟨a,rfl⟩:=aT q2.1;obtain ⟨n,rfl⟩:=aT q3.1;obtain ⟨i,rfl⟩:=aT q4.1;rw [So,So,So] at h;rfl';refine #[O,pas,st,k,rfl,R,by omega,λe sa he hs hl=>?_,λhe=>h.no R Kf (by rw [he]) (aj.refl _)];rw [he] at h;dsimp only at h;rw [xb,mq (ok':=Fj st e n i [a]) λx _=>?_] at h
 .rfl';refine #[by show 1<=sizeLine;decide,λy hy=>?_];have s1:=aj.upd (o:=.lst [.int (a:Nat)]) hy;rfl';refine #[O,pas,st,sa,y,e,n,i,[a],rfl,R.same s1,hs.to λb o e _=>s1 b o e,hl,by omega,ae,λj hj=>by rw [(SB).mp hj];omega,by show 1<=4;decide,λH1 q K1 hq nq=>?_];exact h.yes R rfl (c8.pre R s1 K1) hq (xa _ _) nq
 .unfold Fj;rw [w_];by_cases z:x.land=a
  .subst z;simp
  .rw [show (x.land==a)=false from beq_eq_false_iff_ne.mpr z,show [a].contains x.land=false by simp [z],Bool.false_and,Bool.false_and]
theorem eP:al ["office","numbers","place","begin","kind"] ["office","numbers"] (ah (top 140)):=by ext
noncomputable def qQ (c:Cl):Sp:=pz c (λst ns=>step st [24::ns]) Dh
theorem qR (T:Tx) (hN:jS K mg base c.tab):FO (cf P w) 17 "call_anywhere" ["office","numbers"] (qQ c):=by
 refine T.rH.gX eP (by ext) λ_ _ _ _ _ H vs Q E hr h=>?_;obtain ⟨O,pas,st,p,ns,rfl,R,hp,⟨k,n,i,rfl⟩,h⟩:=h;have hp:H p=some (.lst [.int k,.int n,.int i]):=hp;replace h:Out c O pas H st (step st [[24,k,n,i]]) Q E:=h;rw [M1] at h;exists (aa (bt 2 eP.nd (bK (cA T) hr.m (aV (cR (pv 1) ag))))
  (aa (bt 3 eP.nd (bK (aZ T) hr.m (aV (cR (pv 1) ag))))
  (aa (bt 4 eP.nd (bK (kT T) hr.m (aV (cR (pv 1) ag))))
  (ac (am (fW (jZ T hN) hr.m (bY (pv 0) (bY (bK (eD T) hr.m (cz (pv 0) (pv 2))) (dH (pv 3) (pv 4) (ik (GM rfl) (by rfl) T.BP PyProof.Rows.boot_list (aV (ik wP (by rfl) T.hX boot_range (aV (az aP (gI 3 T.gA rfl) ag))))))))))))))
 rfl';refine #[k,rfl,λq1=>?_,λq=>h.no R fU (bo (dO q)) (aj.refl _)];rfl';refine #[n,rfl,λq3=>?_,λq=>h.no R fU (bo (bW (dO q))) (aj.refl _)];rfl';refine #[i,rfl,λq4=>?_,λq=>h.no R fU (bo (bW (bW (bC q)))) (aj.refl _)];rw [cy (wt q1 (wt q3 (be.mpr q4)))] at h;obtain ⟨k,rfl⟩:=aT q1.1;obtain ⟨n,rfl⟩:=aT q3.1;obtain ⟨i,rfl⟩:=aT q4.1;rw [So,So] at h;rfl';refine #[O,pas,st,k,rfl,R,by omega,λe sa he hs hl=>?_,λhe=>h.no R Kf (by rw [he]) (aj.refl _)];rw [he] at h;dsimp only at h;obtain ⟨xs,a1,a2⟩:=R.acts;rw [xb,mq (ok':=Fj st e n i [0,1,2,3]) λx hx=>?_] at h
 .rfl';refine #[4,rfl,by decide,λr hr=>?_];rfl';refine #[r,4,rfl,ae,by decide,λy hy=>?_];have s1:=(aj.upd (o:=.Fq 0 (4:Nat)) hr).trans (aj.upd (o:=.lst ((SR 4).map λi=>V.int (i:Nat))) hy);rfl';refine #[O,pas,st,sa,y,e,n,i,[0,1,2,3],rfl,R.same s1,hs.to λb o e _=>s1 b o e,hl,by omega,ae,λj hj=>by simp at hj;omega,by decide,λH1 q K1 hq nq=>?_];exact h.yes R rfl (c8.pre R s1 K1) hq (xa _ _) nq
 .unfold Fj;rw [w_];obtain ⟨j,hj⟩:=Tt hx;have hl4:x.land<=3:=by
   have hjx:j<xs.length:=by rw [a2.length];exact ((Sl).mp hj).1
   exact (a2.at (Ss hjx) hj).2.2.1
  rw [show [0,1,2,3].contains x.land=true from (TB).mpr (by simp;omega),Bool.true_and]
end
noncomputable def cO (m:Nat) (ns:List Int):List (List Int):=if m=3 then [3::ns.take 3,ns.drop 3] else if m=15 then [15::ns.take 1,ns.drop 1] else [(m:Int)::ns]
noncomputable def Fk:Nat->List Int->Prop
 |0=>Jx
 |1=>Dh
 |2=>Jx
 |3=>λns=>∃a b d t,ns=a::b::d::t
 |4=>Jx
 |5=>vS
 |6=>vS
 |7=>vS
 |8=>Dh
 |9=>Dh
 |10=>vS
 |11=>vS
 |12=>vS
 |13=>λns=>ns=[]
 |14=>vS
 |15=>λns=>∃a t,ns=a::t
 |16=>Jx
 |17=>Dh
 |18=>Dh
 |19=>Pp
 |20=>Pp
 |21=>Dh
 |22=>λns=>ns=[]
 |23=>Rl
 |24=>Dh
 |25=>vS
 |26=>vS
 |_=>vS
noncomputable def RN (c:Cl) (m:Nat):Sp:=pz c (λst ns=>step st (cO m ns)) (Fk m)
theorem JP {n:Int} {A:Key->Prop} (q:A (.inl n)):∃k,V.int n=kV k/\A k:=#[.inl n,rfl,q]
theorem BE {n:Int} {A:V->Prop} (l:aY kvs (.inl n)=some v) (q:A v):∃k v,V.int n=kV k/\aY kvs k=some v/\A v:=#[.inl n,v,rfl,l,q]
theorem pP {F:KE->List Str->Sp->Prop} (h:tf σ H λx H1=>∃f ps sp,x= .ref f/\F f ps sp/\t σ H1 λvs H2=>sp vs H2 Q E):CB F tf E t σ H Q:=h
theorem HM {kvs:List (Key×V)} {k:Key} {v:V} (h:aY kvs k=some v):(k,v)∈kvs:=by
 unfold aY at h;cases e:kvs.find? λkv=>decide (kv.1=k) with
 |none=>rw [e] at h;cases h
 |some y=>
  rw [e] at h;have h1:=UJ e;have h2:y.1=k:=by simpa using List.find?_some e
  have h3:y.2=v:=Sd h;rw [<-h2,<-h3];exact h1
theorem bS {P:SN} {w:S_} {K:UT} {mg:Str->Option UU} {base:Ti} {CX:sm} {j k:Nat} {x:Str} {ps:List Str} {sp:Sp} {f:KE} (h:JY P w K mg base CX j x ps sp) (e:mg x=some (.ref f)) (l:j<=k):FnAt P w K mg base CX k f ps sp:=by obtain ⟨f',fd,e',a,b,d⟩:=h;rw [e] at e';cases e';exact #[fd,a,b,d.mono l]
theorem Pq:∀n:Nat,n<28->(n∈[0,1,2,27]\/n∈[3,4,5,6,7,8,9,10]\/n∈[11,12,13,14]\/n∈[15,16,17,18,19,20,26]\/n∈[21,22,23,24,25]):=by decide
section
noncomputable def Entry (P:SN) (w:S_) (K:UT) (mg:Str->Option UU) (base:Ti) (c:Cl) (kvs:List (Key×V)):Prop:=∀(m:Nat) (v:V),aY kvs (.inl (m:Int))=some v->∃f,v= .ref f/\FnAt P w K mg base (cf P w) 68 f ["office","numbers"] (RN c m)
theorem mr {kvs:List (Key×V)} (h:∀p∈kvs,∃(m:Nat) (f:KE),p=(.inl (m:Int),.ref f)/\FnAt P w K mg base (cf P w) 68 f ["office","numbers"] (RN c m)):Entry P w K mg base c kvs:=λm v hv=>by obtain ⟨m',f,e,q⟩:=h _ (HM hv);cases e;exact #[f,rfl,q]
theorem Fl (T:Tx) {f0 f1 f2 f27:KE} (h0:mg "call_date" =some (.ref f0)) (h1:mg "call_day" =some (.ref f1)) (h2:mg "call_easter" =some (.ref f2)) (h27:mg "call_months" =some (.ref f27)):Entry P w K mg base c [(.inl 0,.ref f0),(.inl 1,.ref f1),(.inl 2,.ref f2),(.inl 27,.ref f27)]:=mr λp hp=>by
 simp only [Sg,SI,or_false] at hp;rcases hp with rfl|rfl|rfl|rfl
 .exact #[0,f0,rfl,bS (yQ T) h0 (by decide)]
 .exact #[1,f1,rfl,bS (Bh T) h1 (by decide)]
 .exact #[2,f2,rfl,bS (uu T) h2 (by decide)]
 .exact #[27,f27,rfl,bS (uw T) h27 (by decide)]
theorem Dt (T:Tx) {f3 f4 f5 f6 f7 f8 f9 f10:KE} (h3:mg "call_land" =some (.ref f3)) (h4:mg "call_landtext" =some (.ref f4)) (h5:mg "call_closed" =some (.ref f5)) (h6:mg "call_next" =some (.ref f6)) (h7:mg "call_last" =some (.ref f7)) (h8:mg "call_opens" =some (.ref f8)) (h9:mg "call_kth" =some (.ref f9)) (h10:mg "call_feasts" =some (.ref f10)):Entry P w K mg base c [(.inl 3,.ref f3),(.inl 4,.ref f4),(.inl 5,.ref f5),(.inl 6,.ref f6),(.inl 7,.ref f7),(.inl 8,.ref f8),(.inl 9,.ref f9),(.inl 10,.ref f10)]:=mr λp hp=>by
 simp only [Sg,SI,or_false] at hp;rcases hp with rfl|rfl|rfl|rfl|rfl|rfl|rfl|rfl
 .exact #[3,f3,rfl,bS (yZ T) h3 (by decide)]
 .exact #[4,f4,rfl,bS (qJ T) h4 (by decide)]
 .exact #[5,f5,rfl,bS (uA T) h5 (by decide)]
 .exact #[6,f6,rfl,bS (yV T) h6 (by decide)]
 .exact #[7,f7,rfl,bS (yX T) h7 (by decide)]
 .exact #[8,f8,rfl,bS (vU T) h8 (by decide)]
 .exact #[9,f9,rfl,bS (Bl T) h9 (by decide)]
 .exact #[10,f10,rfl,bS (uC T) h10 (by decide)]
theorem BF (T:Tx) {f11 f12 f13 f14:KE} (h11:mg "call_stop" =some (.ref f11)) (h12:mg "call_go" =some (.ref f12)) (h13:mg "call_stops" =some (.ref f13)) (h14:mg "call_still" =some (.ref f14)):Entry P w K mg base c [(.inl 11,.ref f11),(.inl 12,.ref f12),(.inl 13,.ref f13),(.inl 14,.ref f14)]:=mr λp hp=>by
 simp only [Sg,SI,or_false] at hp;rcases hp with rfl|rfl|rfl|rfl
 .exact #[11,f11,rfl,bS (y9 T) h11 (by decide)]
 .exact #[12,f12,rfl,bS (Dm T) h12 (by decide)]
 .exact #[13,f13,rfl,bS (vW T) h13 (by decide)]
 .exact #[14,f14,rfl,bS (vY T) h14 (by decide)]
theorem BG (T:Tx) {f15 f16 f17 f18 f19 f20 f26:KE} (h15:mg "call_limit" =some (.ref f15)) (h16:mg "call_limittext" =some (.ref f16)) (h17:mg "call_end" =some (.ref f17)) (h18:mg "call_latest" =some (.ref f18)) (h19:mg "call_same" =some (.ref f19)) (h20:mg "call_never" =some (.ref f20)) (h26:mg "call_ends" =some (.ref f26)):Entry P w K mg base c [(.inl 15,.ref f15),(.inl 16,.ref f16),(.inl 17,.ref f17),(.inl 18,.ref f18),(.inl 19,.ref f19),(.inl 20,.ref f20),(.inl 26,.ref f26)]:=mr λp hp=>by
 simp only [Sg,SI,or_false] at hp;rcases hp with rfl|rfl|rfl|rfl|rfl|rfl|rfl
 .exact #[15,f15,rfl,bS (wc T) h15 (by decide)]
 .exact #[16,f16,rfl,bS (pM T) h16 (by decide)]
 .exact #[17,f17,rfl,bS (Bz T) h17 (by decide)]
 .exact #[18,f18,rfl,bS (uO T) h18 (by decide)]
 .exact #[19,f19,rfl,bS (zc T) h19 (by decide)]
 .exact #[20,f20,rfl,bS (wj T) h20 (by decide)]
 .exact #[26,f26,rfl,bS (ze T) h26 (by decide)]
theorem Fm (T:Tx) (hN:jS K mg base c.tab) {f21 f22 f23 f24 f25:KE} (h21:mg "call_act" =some (.ref f21)) (h22:mg "call_acts" =some (.ref f22)) (h23:mg "call_met" =some (.ref f23)) (h24:mg "call_anywhere" =some (.ref f24)) (h25:mg "call_clock" =some (.ref f25)):Entry P w K mg base c [(.inl 21,.ref f21),(.inl 22,.ref f22),(.inl 23,.ref f23),(.inl 24,.ref f24),(.inl 25,.ref f25)]:=mr λp hp=>by
 simp only [Sg,SI,or_false] at hp;rcases hp with rfl|rfl|rfl|rfl|rfl
 .exact #[21,f21,rfl,bS (BB T) h21 (by decide)]
 .exact #[22,f22,rfl,bS (zl T) h22 (by decide)]
 .exact #[23,f23,rfl,bS (BD T hN) h23 (by decide)]
 .exact #[24,f24,rfl,bS (qR T hN) h24 (by decide)]
 .exact #[25,f25,rfl,bS (wo T) h25 (by decide)]
theorem uT:al ["office","number","numbers"] ["office","number","numbers"] (ah (top 160)):=by ext
noncomputable def uU (c:Cl):Sp:=J9 λ(O:OA) (pas:List (KE×CA)) (st:State) (m:Nat) (p:KE) (ns:List Int) vs H Q E=>vs=[.ref O.o,.int (m:Nat),.ref p]/\m<28/\bI c O pas H st/\H p=some (.lst (ns.map V.int))/\Fk m ns/\Out c O pas H st (step st (cO m ns)) Q E
theorem uV (T:Tx) (hN:jS K mg base c.tab):FO (cf P w) 69 "answer_call" ["office","number","numbers"] (uU c):=by
 refine T.vo.gX uT (by ext) λf _ _ _ _ H vs Q E hr h=>?_;obtain ⟨O,pas,st,m,p,ns,rfl,hm,R,hp,hsh,h⟩:=h;obtain ⟨a1,f0,f1,f2,f27,h_DAY_CALLS,e0,e1,e2,e27,h_⟩:=T.h_;obtain ⟨a2,f3,f4,f5,f6,f7,f8,f9,f10,h_LAND_CALLS,e3,e4,e5,e6,e7,e8,e9,e10,gq⟩:=T.gq;obtain ⟨a3,f11,f12,f13,f14,h_STILL_CALLS,e11,e12,e13,e14,fL⟩:=T.fL;obtain ⟨a4,f15,f16,f17,f18,f19,f20,f26,h_LIMIT_CALLS,e15,e16,e17,e18,e19,e20,e26,fK⟩:=T.fK;obtain ⟨a5,f21,f22,f23,f24,f25,h_ACT_CALLS,e21,e22,e23,e24,e25,j8⟩:=T.j8;have n1:Entry P w K mg base c _:=Fl T e0 e1 e2 e27;have n2:Entry P w K mg base c _:=Dt T e3 e4 e5 e6 e7 e8 e9 e10;have n3:Entry P w K mg base c _:=BF T e11 e12 e13 e14;have n4:Entry P w K mg base c _:=BG T e15 e16 e17 e18 e19 e20 e26;have n5:Entry P w K mg base c _:=Fm T hN e21 e22 e23 e24 e25;have k1:∀{kvs:List (Key×V)} {l:List Nat},kvs.map (·.1)=l.map (λ(n:Nat)=>(.inl (n:Int):Key))->aY kvs (.inl (m:Int))=none->m∉l:=λ{kvs l} e q hl=>by have:=(D8 kvs (.inl (m:Int))).mpr (by rw [e];exact (Te).mpr #[m,hl,rfl]);rw [q] at this;cases this
 exists (aa (aL (fh (qp h_ (gR h_DAY_CALLS rfl) (pv 1)) rfl) (ac (am (lF (km h_ (gR h_DAY_CALLS rfl) (pv 1) (λ_ _=>rfl)) (k:=68) hr.m (E:=E) iu (cz (pv 0) (pv 2))))) aC)
  (aa (aL (fh (qp gq (gR h_LAND_CALLS rfl) (pv 1)) rfl) (ac (am (lF (km gq (gR h_LAND_CALLS rfl) (pv 1) (λ_ _=>rfl)) (k:=68) hr.m (E:=E) iu (cz (pv 0) (pv 2))))) aC)
  (aa (aL (fh (qp fL (gR h_STILL_CALLS rfl) (pv 1)) rfl) (ac (am (lF (km fL (gR h_STILL_CALLS rfl) (pv 1) (λ_ _=>rfl)) (k:=68) hr.m (E:=E) iu (cz (pv 0) (pv 2))))) aC)
  (aa (aL (fh (qp fK (gR h_LIMIT_CALLS rfl) (pv 1)) rfl) (ac (am (lF (km fK (gR h_LIMIT_CALLS rfl) (pv 1) (λ_ _=>rfl)) (k:=68) hr.m (E:=E) iu (cz (pv 0) (pv 2))))) aC)
  (ac (am (lF (km j8 (gR h_ACT_CALLS rfl) (pv 1) (λ_ _=>rfl)) (k:=68) hr.m (E:=E) iu (cz (pv 0) (pv 2)))))))))
 have fin:∀{kvs:List (Key×V)} {v:V},Entry P w K mg base c kvs->aY kvs (.inl (m:Int))=some v->∃f ps sp,v= .ref f/\FnAt P w K mg base (cf P w) 68 f ps sp/\sp [.ref O.o,.ref p] H Q E:=λ{kvs v} n hv=>by obtain ⟨f,rfl,q⟩:=n m v hv;exact #[f,_,_,rfl,q,O,pas,st,p,ns,rfl,R,hp,hsh,h]
 rfl';refine JP ?_;cases v1:aY ([(.inl 0,.ref f0),(.inl 1,.ref f1),(.inl 2,.ref f2),(.inl 27,.ref f27)]:List (Key×V)) (.inl (m:Int)) with
 |some v=>rfl';refine pP ?_;rfl';obtain ⟨f',ps,sp,e,q,hsp⟩:=fin n1 v1;refine BE v1 #[f',ps,sp,e,q,?_];rfl';exact hsp
 |none=>
 rfl';refine JP ?_;cases v2:aY ([(.inl 3,.ref f3),(.inl 4,.ref f4),(.inl 5,.ref f5),(.inl 6,.ref f6),(.inl 7,.ref f7),(.inl 8,.ref f8),(.inl 9,.ref f9),(.inl 10,.ref f10)]:List (Key×V)) (.inl (m:Int)) with
 |some v=>rfl';refine pP ?_;rfl';obtain ⟨f',ps,sp,e,q,hsp⟩:=fin n2 v2;refine BE v2 #[f',ps,sp,e,q,?_];rfl';exact hsp
 |none=>
 rfl';refine JP ?_;cases v3:aY ([(.inl 11,.ref f11),(.inl 12,.ref f12),(.inl 13,.ref f13),(.inl 14,.ref f14)]:List (Key×V)) (.inl (m:Int)) with
 |some v=>rfl';refine pP ?_;rfl';obtain ⟨f',ps,sp,e,q,hsp⟩:=fin n3 v3;refine BE v3 #[f',ps,sp,e,q,?_];rfl';exact hsp
 |none=>
 rfl';refine JP ?_;cases v4:aY ([(.inl 15,.ref f15),(.inl 16,.ref f16),(.inl 17,.ref f17),(.inl 18,.ref f18),(.inl 19,.ref f19),(.inl 20,.ref f20),(.inl 26,.ref f26)]:List (Key×V)) (.inl (m:Int)) with
 |some v=>rfl';refine pP ?_;rfl';obtain ⟨f',ps,sp,e,q,hsp⟩:=fin n4 v4;refine BE v4 #[f',ps,sp,e,q,?_];rfl';exact hsp
 |none=>
 cases v5:aY ([(.inl 21,.ref f21),(.inl 22,.ref f22),(.inl 23,.ref f23),(.inl 24,.ref f24),(.inl 25,.ref f25)]:List (Key×V)) (.inl (m:Int)) with
 |some v=>rfl';refine pP ?_;rfl';obtain ⟨f',ps,sp,e,q,hsp⟩:=fin n5 v5;refine BE v5 #[f',ps,sp,e,q,?_];rfl';exact hsp
 |none=>
  rcases Pq m hm with z|z|z|z|z
  .exact absurd z (k1 (l:=[0,1,2,27]) rfl v1)
  .exact absurd z (k1 (l:=[3,4,5,6,7,8,9,10]) rfl v2)
  .exact absurd z (k1 (l:=[11,12,13,14]) rfl v3)
  .exact absurd z (k1 (l:=[15,16,17,18,19,20,26]) rfl v4)
  .exact absurd z (k1 (l:=[21,22,23,24,25]) rfl v5)
theorem ms:al ["office","number","numbers"] ["office","number","numbers"] (ah (top 159)):=by ext
noncomputable def mv (c:Cl):Sp:=J9 λ(O:OA) (pas:List (KE×CA)) (st:State) (m:Nat) (p:KE) (ns:List Int) vs H Q _=>vs=[.ref O.o,.int (m:Nat),.ref p]/\m<28/\bI c O pas H st/\H p=some (.lst (ns.map V.int))/\Fk m ns/\
 ∀H' q pas',bI c O pas' H' (step st (cO m ns)).1->vR O H H'->H' q=some (.lst ((step st (cO m ns)).2.map V.int))->(step st (cO m ns)).2.length<=1000->q≠O.G->Q (.ref q) H'
theorem gm.xc (T:Tx) {n:Int} (h:gm c C n):nO K C=true:=by
 rcases h with ⟨rfl,_⟩|⟨rfl,_⟩|⟨rfl,_⟩|⟨rfl,_⟩|⟨rfl,_⟩|⟨rfl,_⟩|⟨rfl,_⟩
 .exact T.ja
 .exact T.j1
 .exact T.j3
 .exact T.hZ
 .exact T.bn
 .exact T.nQ
 .exact T.jD
theorem gm.sel {α:Type} {n:Int} (h:gm c C n) (nd:[c.a8,c.iM,c.ga,c.gb,c.bp,c.NoLimit,c.ln].Nodup) (t:Int->α) (d:α):
 (if C=c.a8 then t (-1) else if C=c.iM then t (-3) else if C=c.ga then t (-4) else if C=c.gb then t (-5) else if C=c.bp then t (-6) else if C=c.NoLimit then t (-8) else if C=c.ln then t (-9) else d)=t n:=by
 simp only [TH,Sg,SI,or_false,not_or,not_false_eq_true,List.nodup_nil,and_true] at nd;obtain ⟨⟨a1,a2,a3,a4,a5,a6⟩,⟨b2,b3,b4,b5,b6⟩,⟨c3,c4,c5,c6⟩,⟨d4,d5,d6⟩,⟨x5,x6⟩,y6⟩:=nd;rcases h with ⟨rfl,rfl⟩|⟨rfl,rfl⟩|⟨rfl,rfl⟩|⟨rfl,rfl⟩|⟨rfl,rfl⟩|⟨rfl,rfl⟩|⟨rfl,rfl⟩
 .rw [if_pos rfl]
 .rw [if_neg (λz=>a1 z.symm),if_pos rfl]
 .rw [if_neg (λz=>a2 z.symm),if_neg (λz=>b2 z.symm),if_pos rfl]
 .rw [if_neg (λz=>a3 z.symm),if_neg (λz=>b3 z.symm),if_neg (λz=>c3 z.symm),if_pos rfl]
 .rw [if_neg (λz=>a4 z.symm),if_neg (λz=>b4 z.symm),if_neg (λz=>c4 z.symm),if_neg (λz=>d4 z.symm),if_pos rfl]
 .rw [if_neg (λz=>a5 z.symm),if_neg (λz=>b5 z.symm),if_neg (λz=>c5 z.symm),if_neg (λz=>d5 z.symm),if_neg (λz=>x5 z.symm),if_pos rfl]
 .rw [if_neg (λz=>a6 z.symm),if_neg (λz=>b6 z.symm),if_neg (λz=>c6 z.symm),if_neg (λz=>d6 z.symm),if_neg (λz=>x6 z.symm),if_neg (λz=>y6 z.symm),if_pos rfl]
theorem mw (T:Tx) (hN:jS K mg base c.tab):FO d8 70 "answer_or_refusal" ["office","number","numbers"] (mv c):=by refine T.mQ.g ms (by ext) λ_ _ _ _ _ H vs Q E hr h=>?_;obtain ⟨O,pas,st,m,p,ns,rfl,hm,R,hp,hsh,k⟩:=h;exists (ac (Gi rfl rfl (λ_ _ E2 hpB=>(ac (am (tH (uV T hN) hr.m rfl (E:=E2) hpB (dH (pv 0) (pv 1) (pv 2)))))) (iT rfl T.m_ T.ja (λ_=>(ac (am (aQ (aV (k6 gP ag)))))) (iT rfl T.nP T.j1 (λ_=>(ac (am (aQ (aV (k6 gP ag)))))) (iT rfl T.oy T.j3 (λ_=>(ac (am (aQ (aV (k6 gP ag)))))) (iT rfl T.j5 T.hZ (λ_=>(ac (am (aQ (aV (k6 gP ag)))))) (iT rfl T.bu T.bn (λ_=>(ac (am (aQ (aV (k6 gP ag)))))) (iT rfl T.sJ T.nQ (λ_=>(ac (am (aQ (aV (k6 gP ag)))))) (iT rfl T.oz T.jD (λ_=>(ac (am (aQ (aV (k6 gP ag)))))) Gh)))))))));rfl';refine #[O,pas,st,m,p,ns,rfl,hm,R,hp,hsh,λH' q pas' h1 h2 h3 h4 h5=>k H' q pas' h1 h2 h3 h4 h5,λC n H' hR hr1 K1=>#[C,rfl,hR.xc T,λσ' _=>?_]];rw [hr1] at k;have e:=hR.sel T.nd (λn=>Ic (F1 (fN (Px (rU λi=>V.int (-i)) (tC (V.int (-n)))) ly))) FK;refine Eq.mpr (congrFun (congrFun (congrFun e _) _) _) ?_;rfl';refine #[by show 1<=sizeLine;decide,λy hy=>?_];rw [show (- -n)=n by omega];exact k _ y pas ((R.again K1).same (aj.upd hy)) ((vR.of K1).same (aj.upd hy)) ae w8 ((R.again K1).ng hy)
end
noncomputable def Ps:Land:={calendar:=[],ahead:=0,post:=0}
noncomputable def dl (A:CA):List KE:=[A.r,A.s,A.o,A.cl,A.no]
noncomputable def L0 (c:Cl) (H0 H:Hp) (z:KE×CA):Prop:=∃a dx t,H z.1=some (.ins c.Land dx [("ahead",.int 0),("post",.int 0),("text",.ref t),("calendar",.ref a)])/\H t=some (.lst [])/\H a=some (.ins c.Calendar z.2.dx (l6 0 z.2))/\H z.2.f=some (.lst [])/\(∀b∈dl z.2,H b=some (.dK []))/\(dl z.2).Nodup/\∀b∈z.1::a::t::z.2.f::dl z.2,H0 b=none
theorem L0.to (h:L0 c H0 H z) (k:∀b x,H b=some x->H0 b=none->H' b=some x):L0 c H0 H' z:=by
 obtain ⟨a,dx,t,e1,e2,e3,e4,e5,e6,e7⟩:=h;refine #[a,dx,t,k _ _ e1 (e7 _ ?_),k _ _ e2 (e7 _ ?_),k _ _ e3 (e7 _ ?_),k _ _ e4 (e7 _ ?_),λb hb=>k _ _ (e5 b hb) (e7 _ ?_),e6,e7]
 all_goals simp [*]
noncomputable def Dj (y z:KE×CA):Prop:=∀b∈dl y.2,∀d∈dl z.2,b≠d
structure Ls (c:Cl) (H0:Hp) (D:KE) (i:Nat) (H:Hp):Prop where
 x:∃pas:List (KE×CA),pas.length=i/\H D=some (.lst (pas.map λz=>V.ref z.1))/\(∀z∈pas,L0 c H0 H z)/\pas.Pairwise Dj
 k:∀b x,H0 b=some x->b≠D->H b=some x
 d:∃x,H0 D=some x
theorem Ls.nn {i:Nat} (h:Ls c H0 D i H) (e:H b=none):H0 b=none:=by
 cases q:H0 b with
 |none=>rfl
 |some x=>
  exfalso;by_cases z:b=D
  .obtain ⟨⟨pas,_,e2,_⟩,_⟩:=h;rw [z,e2] at e;cases e
  .rw [h.k b x q z] at e;cases e
theorem Ls.add {H0 H1 Hc:Hp} {D t a dxc x dxl:KE} {i:Nat} {A:CA} (L:Ls c H0 D i H1) (hi:i<4) (ht:H1 t=none) (ha:upd H1 t (.lst []) a=none) (hdc:upd H1 t (.lst []) dxc=none) (hac:dxc≠a)
 (kc:∀b o,upd (upd (upd H1 t (.lst [])) dxc (.own a)) a (.ins c.Calendar dxc []) b=some o->b≠a->Hc b=some o)
 (new:∀b,(b=A.r\/b=A.f\/b=A.s\/b=A.o\/b=A.cl\/b=A.no)->upd (upd (upd H1 t (.lst [])) dxc (.own a)) a (.ins c.Calendar dxc []) b=none) (nd:(dl A).Nodup)
 (e0:Hc a=some (.ins c.Calendar A.dx (l6 0 A))) (e1:Hc A.r=some (.dK [])) (e2:Hc A.f=some (.lst [])) (e3:Hc A.s=some (.dK [])) (e4:Hc A.o=some (.dK [])) (e5:Hc A.cl=some (.dK [])) (e6:Hc A.no=some (.dK []))
 (hx:Hc x=none) (hdx:Hc dxl=none) (hxd:dxl≠x) (fs:List (Str×V)) (hfs:fs=([("ahead",.int 0),("post",.int 0),("text",.ref t),("calendar",.ref a)]:List (Str×V))):
 ∃acc,upd (upd (upd Hc dxl (.own x)) x (.ins c.Land dxl [])) x (.ins c.Land dxl fs) D=some (.lst acc)/\acc.length<sizeLine/\Ls c H0 D (i+1) (upd (upd (upd (upd Hc dxl (.own x)) x (.ins c.Land dxl [])) x (.ins c.Land dxl fs)) D (.lst (acc++[.ref x]))):=by
 subst hfs;have s1:aj H1 (upd (upd (upd H1 t (.lst [])) dxc (.own a)) a (.ins c.Calendar dxc [])):=(aj.upd ht).trans ((aj.upd hdc).trans (aj.upd (by rw [ai (λz=>hac z.symm)];exact ha)));have ha1:H1 a=none:=(aj.upd ht).free ha;have s2:aj H1 Hc:=λb o e=>kc b o (s1 b o e) (ak e ha1);have s3:aj Hc (upd (upd (upd Hc dxl (.own x)) x (.ins c.Land dxl [])) x (.ins c.Land dxl [("ahead",.int 0),("post",.int 0),("text",.ref t),("calendar",.ref a)])):=λb o e=>by rw [ai (ak e hx),ai (ak e hx),ai (ak e hdx)];exact e
 obtain ⟨pas,l1,l2,l3,l4⟩:=id L.x;have nw:∀b∈dl A,H1 b=none:=λb hb=>s1.free (new b (by simp only [dl,Sg,SI,or_false] at hb;rcases hb with h|h|h|h|h<;>simp [h]));have nf:H1 A.f=none:=s1.free (new _ (.inr (.inl rfl)));have hta:t≠a:=ak (H:=upd H1 t (.lst [])) ae ha;have htc:Hc t=some (.lst []):=kc t _ (by rw [ai hta,ai (ak (H:=upd H1 t (.lst [])) ae hdc),ae]) hta;refine #[_,s3 _ _ (s2 _ _ l2),?_,#[#[pas++[(x,A)],by rw [Sq,l1];rfl,by rw [ae,Sw];rfl,λz hz=>?_,?_],λb y e n=>by rw [ai n];exact s3 _ _ (s2 _ _ (L.k b y e n)),L.d]]
 .rw [w4,l1];exact SS hi (by decide)
 .have up:∀b y,upd (upd (upd Hc dxl (.own x)) x (.ins c.Land dxl [])) x (.ins c.Land dxl [("ahead",.int 0),("post",.int 0),("text",.ref t),("calendar",.ref a)]) b=some y->H1 b=none->upd (upd (upd (upd Hc dxl (.own x)) x (.ins c.Land dxl [])) x (.ins c.Land dxl [("ahead",.int 0),("post",.int 0),("text",.ref t),("calendar",.ref a)])) D (.lst (List.map (λz=>V.ref z.1) pas++[.ref x])) b=some y:=λb y e q=>by rw [ai (λz=>by rw [z,l2] at q;cases q)];exact e
  rcases (SU).mp hz with hz|hz
  .refine (l3 z hz).to λb y e q=>?_;by_cases zD:b=D
   .obtain ⟨u,hu⟩:=L.d;rw [zD,hu] at q;cases q
   .rw [ai zD];exact s3 _ _ (s2 _ _ e)
  .have ez:z=(x,A):=by simpa using hz
   subst ez;have hx1:=s2.free hx;refine #[a,dxl,t,up _ _ ae hx1,up _ _ (s3 _ _ htc) ht,up _ _ (s3 _ _ e0) ha1,up _ _ (s3 _ _ e2) nf,λb hb=>up _ _ (s3 _ _ ?_) (nw b hb),nd,λb hb=>L.nn ?_]
   .simp only [dl,Sg,SI,or_false] at hb;rcases hb with h|h|h|h|h<;>(rw [h];assumption)
   .simp only [Sg] at hb;rcases hb with h|h|h|h|h
    .rw [h];exact hx1
    .rw [h];exact ha1
    .rw [h];exact ht
    .rw [h];exact nf
    .exact nw b h
 .refine List.pairwise_append.mpr #[l4,List.pairwise_singleton _ _,λy hy z hz=>?_];have ez:z=(x,A):=by simpa using hz
  subst ez;intro b hb d hd;obtain ⟨_,_,_,_,_,_,_,q,_⟩:=l3 y hy;exact ak (q b hb) (nw d hd)
theorem L0.land {M:KE->Prop} (h:L0 c H0 H z) (mm:∀b,M b->∃kvs:List (Key×V),H b=some (.dK kvs)) (h1:¬M z.2.r) (h2:¬M z.2.s) (h3:¬M z.2.o) (h4:M z.2.cl) (h5:M z.2.no):Bd c M H z Ps:=by obtain ⟨a,dx,t,e1,e2,e3,e4,e5,e6,e7⟩:=h;refine #[a,#[dx,t,e1,e2],?_,by decide,by decide,by decide,by decide];have B:fw c H a z.2 ([]:Calendar).length []:=#[e3,#[[],e5 _ (by simp [dl]),#[.nil,λp hp=>nomatch hp],λn=>rfl],#[[],e4,.nil],#[[],e5 _ (by simp [dl]),Sf _,λn=>rfl],#[[],e5 _ (by simp [dl]),Sf _,λn=>rfl],e5 _ (by simp [dl]),e5 _ (by simp [dl]),e6];exact B.made #[SW _,0,by decide,λh=>nomatch h] (λs hs=>nomatch hs) mm h1 h2 h3 h4 h5
theorem BH {α β:Type} {R:α->β->Prop} {b:β}:∀{l:List α} {n:Nat},l.length=n->(∀a∈l,R a b)->cC R l (List.replicate n b)
 |[],n,e,_=>by subst e;exact .nil
 |a::l,n,e,h=>by subst e;exact .cons (h a Sk) (BH rfl λx hx=>h x (Sh _ hx))
theorem Ls.off {H H1 H':Hp} {D o dx s d x:KE} (hD:H D=none) (ho:∃C dx fs,H o=some (.ins C dx fs)) (L:Ls c (upd H D (.lst [])) D 4 H1) (hT:mT c H)
 (m:pR H1 o c.dW dx [("lands",.ref D),("stretches",.ref s),("limits",.ref d),("acts",.ref x)] H' [(x,.lst []),(d,.dK []),(s,.lst [])]):
 ∃pas,∀G,H' G=none->bI c #[o,dx,D,d,x,G] pas (upd H' G (.lst [])) Vbptaa.start:=by
 obtain ⟨pas,p1,p2,p3,p4⟩:=L.x;refine #[pas,λG hG=>?_];have sG:aj H' (upd H' G (.lst [])):=aj.upd hG;have m':pR H1 o c.dW dx [("lands",.ref D),("stretches",.ref s),("limits",.ref d),("acts",.ref x)] (upd H' G (.lst [])) [(x,.lst []),(d,.dK []),(s,.lst [])]:=
  #[m.here,λb y e n=>sG _ _ (m.kp b y e n),sG _ _ m.at_,λy hy=>let ⟨e1,e2,e3⟩:=m.all y hy;⟨e1,e2,sG _ _ e3⟩,m.nd]
 have gx:=m.all (x,.lst []) (by simp);have gs:=m.all (s,.lst []) (by simp);have nGL:D≠G:=λz=>by
  by_cases q:D=o
  .rw [<-z,q,m.at_] at hG;cases hG
  .rw [<-z,m.kp _ _ p2 q] at hG;cases hG
 have nGx:x≠G:=ak gx.2.2 hG;have nGs:s≠G:=ak gs.2.2 hG;have hG1:H1 G=none:=by
  cases e:H1 G with
  |none=>rfl
  |some y=>
   by_cases q:G=o
   .rw [q,m.at_] at hG;cases hG
   .rw [m.kp _ _ e q] at hG;cases hG
 clear m sG;have eG:upd H' G (.lst []) G=some (.lst []):=ae;generalize upd H' G (.lst [])=H' at m' eG ⊢;have m:=m';obtain ⟨_,_,_,ho⟩:=ho;have noD:o≠D:=ak ho hD;have ax:=m.all (x,.lst []) (by simp);have ad:=m.all (d,.dK []) (by simp);have as:=m.all (s,.lst []) (by simp);have nd:=m.nd;simp only [S1,List.map_nil,TH,Sg,SI,or_false,not_or,List.nodup_nil,and_true,not_false_eq_true] at nd;have k1:∀z∈pas,L0 c (upd H D (.lst [])) H' z:=λz hz=>(p3 z hz).to λb y e q=>m.kp b y e λh=>by rw [h,ai noD,ho] at q;cases q
 have q1:∀z∈pas,∀b∈dl z.2,H1 b=some (.dK []):=λz hz=>let ⟨_,_,_,_,_,_,_,h,_⟩:=p3 z hz;h
 have q2:∀z∈pas,∀b∈dl z.2,H' b=some (.dK []):=λz hz=>let ⟨_,_,_,_,_,_,_,h,_⟩:=k1 z hz;h
 have nD:∀z∈pas,∀b∈dl z.2,b≠d:=λz hz b hb=>ak (q1 z hz b hb) ad.1;have cm:∀A:CA,A.cl∈dl A/\A.no∈dl A:=λA=>by simp [dl]
 have mm:∀b,dS ⟨o,dx,D,d,x,G⟩ pas b->∃kvs:List (Key×V),H' b=some (.dK kvs):=λb hb=>by
  rcases hb with ⟨z,hz,h|h⟩|h
  .rw [h];exact #[_,q2 z hz _ (cm _).1]
  .rw [h];exact #[_,q2 z hz _ (cm _).2]
  .rw [h];exact #[_,ad.2.2]
 have dj:∀z∈pas,∀y∈pas,∀b∈[z.2.r,z.2.s,z.2.o],b≠y.2.cl/\b≠y.2.no:=λz hz y hy b hb=>by
  have hb':b∈dl z.2:=by simp only [Sg,SI,or_false] at hb;rcases hb with h|h|h<;>simp [dl,h]
  obtain ⟨i,hi,ei⟩:=List.getElem_of_mem hz;obtain ⟨j,hj,ej⟩:=List.getElem_of_mem hy;rcases Nat.lt_trichotomy i j with h|h|h
  .have:=(TK).mp p4 i j hi hj h;rw [ei,ej] at this;exact #[this b hb' _ (cm _).1,this b hb' _ (cm _).2]
  .subst h;have e:z=y:=ei.symm.trans ej;subst e;obtain ⟨_,_,_,_,_,_,_,_,h6,_⟩:=p3 z hz;simp only [dl,TH,Sg,SI,or_false,not_or] at h6;obtain ⟨⟨_,_,a1,a2⟩,⟨_,b1,b2⟩,⟨c1,c2⟩,_⟩:=h6;simp only [Sg,SI,or_false] at hb;rcases hb with h|h|h
   .rw [h];exact #[a1,a2]
   .rw [h];exact #[b1,b2]
   .rw [h];exact #[c1,c2]
  .have:=(TK).mp p4 j i hj hi h;rw [ei,ej] at this;exact #[λe=>this _ (cm _).1 b hb' e.symm,λe=>this _ (cm _).2 b hb' e.symm]
 have nM:∀z∈pas,∀b∈[z.2.r,z.2.s,z.2.o],¬dS ⟨o,dx,D,d,x,G⟩ pas b:=λz hz b hb hm=>by
  rcases hm with ⟨y,hy,h|h⟩|h
  .exact (dj z hz y hy b hb).1 h
  .exact (dj z hz y hy b hb).2 h
  .exact nD z hz b (by simp only [Sg,SI,or_false] at hb;rcases hb with h|h|h<;>simp [dl,h]) h
 have nDx:D≠x:=ak p2 ax.1;have nDs:D≠s:=ak p2 as.1;have nf:∀{b:KE},upd H D (.lst []) b=none->(∃y,H1 b=some y)->Nx ⟨o,dx,D,d,x,G⟩ b:=λ{b} h e=>#[λz=>(by have z:b=D:=z;rw [z,ae] at h;cases h),let ⟨y,e⟩:=e;⟨ak e ax.1,ak e hG1⟩]
 refine #[#[s,m.at_,#[[],as.2.2,.nil],λz=>nDs z.symm,λz=>nd.1.2 z.symm,nGs],m.kp _ _ p2 (λz=>noD z.symm),BH p1 λz hz=>(k1 z hz).land mm (nM z hz _ (by simp)) (nM z hz _ (by simp)) (nM z hz _ (by simp)) (.inl #[z,hz,.inl rfl]) (.inl #[z,hz,.inr rfl]),p4.imp λ{y z} h=>#[h _ (cm _).1 _ (cm _).1,h _ (cm _).1 _ (cm _).2,h _ (cm _).2 _ (cm _).1,h _ (cm _).2 _ (cm _).2],rfl,#[[],ad.2.2,#[.nil,λp hp=>nomatch hp],λn hn=>?_,λk q hq=>nomatch hq],rfl,?_,#[[],ax.2.2,.nil],SW _,trivial,SW _,λy hy=>(nomatch hy),nDx,λz hz=>?_,?_,#[_,eG],nGL,nGx]
 .have:((Vbptaa.start.limits)[n]?).join=none:=by show ((List.replicate 6 (none:Option Limit))[n]?).join=none;rw [List.getElem?_replicate,if_pos hn];rfl
  rw [this];rfl
 .rintro ⟨z,hz,h|h⟩
  .exact nD z hz _ (cm _).1 h.symm
  .exact nD z hz _ (cm _).2 h.symm
 .obtain ⟨a,dy,t,e1,e2,e3,e4,e5,e6,e7⟩:=p3 z hz;have e1':=m.kp _ _ e1 λh=>by have:=e7 z.1 Sk;rw [h,ai noD,ho] at this;cases this
  refine #[nf (e7 _ (by simp)) #[_,e4],λC dz fs q f t' hf=>?_];rw [e1'] at q;cases q;simp only [Sg,Prod.mk.injEq,SI,or_false,reduceCtorEq,and_false,false_or,V.ref.injEq] at hf;rcases hf with ⟨_,rfl⟩|⟨_,rfl⟩
  .exact nf (e7 _ (by simp)) #[_,e2]
  .exact nf (e7 _ (by simp)) #[_,e3]
 .exact hT.to (λps e=>m.kp _ _ (L.k _ _ (aj.upd hD _ _ e) (ak e hD)) (aX e ho nofun)) λb φ e=>m.kp _ _ (L.k _ _ (aj.upd hD _ _ e) (ak e hD)) (aX e ho nofun)
section
noncomputable def Fn (c:Cl):Sp:=Jf λ(o dx:KE) vs H Q _=>vs=[.ref o]/\H o=some (.ins c.dW dx [])/\mT c H/\
 ∀(H':Hp) (O:OA) (pas:List (KE×CA)),O.o=o->(∀G,H' G=none->bI c {O with G:=G} pas (upd H' G (.lst [])) Vbptaa.start)->(∀b x,H b=some x->b≠o->H' b=some x)->(∀b,b=O.L\/b=O.X->H b=none)->Q .bZ H'
theorem fz:al ["self","place"] ["self"] (ah (inClass (top 83) 0)):=by ext
theorem Fo (T:Tx):KO d8 3 c.dW "Office" ["self"] (Fn c):=by
 refine T.FB.g T.Ej fz (by ext) λ_ _ A _ _ H vs Q E hr h=>?_;obtain ⟨o,dx,rfl,ho,hT,k⟩:=h;exists (aa (a9 (pv 0) (yb Gu rfl rfl rfl rfl fz.nd (wu rfl T.hX (aV ag)) (own:=[("place",1)]) (ok:=(#[rfl,by decide+kernel,by decide+kernel,by decide+kernel,by decide+kernel]:ni ["self","place"] (ah (inClass (top 83) 0)) _ [("place",1)])) (λ_ _ _ _ _ _=>bg (i:=1) fz.nd rfl (Tk rfl)) (λ_ _ _ _ _ _=>oO) (λ_ _ _ _ _ _ hpB=>(gF (D9 T) hr.m rfl bq (bY ag (dH ag (aQ fi) (CC (rg T) hr.m rfl bq)))))) rfl)
  (aa (a9 (pv 0) (aQ fi) rfl)
  (aa (a9 (pv 0) eY rfl)
  (ac (a9 (pv 0) (aQ fi) rfl)))))
 rfl';refine #[4,rfl,by decide,by decide,λD hD=>?_];have hH0:∀b x,H b=some x->upd H D (.lst []) b=some x:=aj.upd hD;refine wV (Ls c (upd H D (.lst [])) D) #[#[[],rfl,ae,#[λz hz=>(nomatch hz),.nil]],λb x e _=>e,#[_,ae]] ?_ ?_
 .intro i H1 hi L;rfl';refine #[rfl,?_];rfl';refine #[by decide,λt ht=>?_];rfl';intro a dxc ha hdc hac;refine #[a,dxc,rfl,ae,λHc A kc hA new nd e0 e1 e2 e3 e4 e5 e6=>#[rfl,?_]];rfl';intro x dxl hx hdx hxd;refine #[x,dxl,_,_,_,_,rfl,ae,#[rfl,?_]];exact L.add hi ht ha hdc hac kc new nd e0 e1 e2 e3 e4 e5 e6 hx hdx hxd _ rfl
 intro H1 L;rfl';have noD:o≠D:=ak ho hD;refine #[_,_,_,_,rfl,L.k _ _ (hH0 _ _ ho) noD,T.aN,T.cT,(by show 0<1000;decide),?_];rfl';have m0:=(pR.start (L.k _ _ (hH0 _ _ ho) noD)).set "lands" (.ref D);refine #[by decide,λas has=>?_];have n1:=m0.new has (.lst []);rfl';refine #[_,_,_,_,rfl,n1.at_,T.aN,T.aK,(by show 1<1000;decide),?_];have m1:=n1.set "stretches" (.ref as);rfl';intro ad had;have n2:=m1.new had (.dK []);rfl';refine #[_,_,_,_,rfl,n2.at_,T.aN,T.eF,(by show 2<1000;decide),?_];have m2:=n2.set "limits" (.ref ad);rfl';refine #[by decide,λax hax=>?_];have n3:=m2.new hax (.lst []);rfl';refine #[_,_,_,_,rfl,n3.at_,T.aN,T.cH,(by show 3<1000;decide),?_];have m3:=n3.set "acts" (.ref ax);rfl';obtain ⟨pas,R⟩:=Ls.off hD #[_,_,_,ho] L hT m3;refine k _ #[o,dx,D,ad,ax,o] pas rfl R (λb x e n=>m3.kp _ _ (L.k _ _ (hH0 _ _ e) (ak e hD)) n) λb hb=>?_;rcases hb with hb|hb
 .rw [hb];exact hD
 .rw [hb];exact (aj.upd hD).free (L.nn (m3.all (ax,.lst []) Sk).1)
end
section
open Vbptaa
noncomputable def SZ:List Nat:=[1,3,1,3,1,2,2,2,3,3,2,2,2,0,2,1,1,3,3,5,5,3,0,4,3,2,2,2]
theorem Du {p:Int} {n k:Nat} (h:Tg p=some (n,k)):∃m:Nat,p=(m:Int)/\m<28/\SZ[m]? =some n/\((m≠3/\m≠15/\k=0)\/((m=3\/m=15)/\k=1)):=by
 have hp:0<=p/\p<28:=Decidable.byContradiction λz=>by
  unfold Tg at h
  iterate 28 rw [if_neg (by omega)] at h
  cases h
 obtain ⟨m,rfl⟩:∃m:Nat,p=(m:Int):=#[p.toNat,by omega];have hm:m<28:=by omega
 refine #[m,rfl,hm,?_];have key:∀m:Nat,m<28->Tg (m:Int)=(SZ[m]?).map λn=>(n,if m=3\/m=15 then 1 else 0):=by decide
 rw [key m hm] at h;obtain ⟨n',e1,e2⟩:=Option.map_eq_some_iff.mp h;injection e2 with e2 e3;subst e2;refine #[e1,?_];by_cases z:m=3\/m=15
 .rw [if_pos z] at e3;exact .inr #[z,e3.symm]
 .rw [if_neg z] at e3;exact .inl #[λq=>z (.inl q),λq=>z (.inr q),e3.symm]
theorem xg {l t:List Int} {c:List (List Int)} (h:PyFlat.call Tg l=some (c,t)):∃(m n:Nat) (r:List Int),l=(m:Int)::r/\m<28/\SZ[m]? =some n/\n<=r.length/\
 ((m≠3/\m≠15/\c=[(m:Int)::r.take n]/\t=r.drop n)\/((m=3\/m=15)/\∃(q:Nat) (s:List Int),r.drop n=(q:Int)::s/\q<=s.length/\c=[(m:Int)::r.take n,s.take q]/\t=s.drop q)):=by
 unfold PyFlat.call at h
 match l with
 |[]=>cases h
 |p::r=>
  dsimp only at h;cases e:Tg p with
  |none=>rw [e] at h;cases h
  |some x=>
   obtain ⟨n,k⟩:=x;rw [e] at h;dsimp only at h;obtain ⟨m,rfl,hm,hs,hk⟩:=Du e;by_cases hl:r.length<n
   .rw [if_pos hl] at h;cases h
   rw [if_neg hl] at h;refine #[m,n,r,rfl,hm,hs,by omega,?_];rcases hk with ⟨h1,h2,rfl⟩|⟨h1,rfl⟩
   .rw [PyFlat.rows] at h;dsimp only at h;have h':=Prod.mk.inj (Sd h);exact .inl #[h1,h2,h'.1.symm,h'.2.symm]
   .right;refine #[h1,?_];rw [PyFlat.rows] at h
    match e2:r.drop n with
    |[]=>rw [e2] at h;cases h
    |q::s=>
     rw [e2,PyFlat.row] at h;by_cases hq:0<=q/\q.toNat<=s.length
     .rw [if_pos hq] at h;dsimp only at h;rw [PyFlat.rows] at h;dsimp only at h;have h':=Prod.mk.inj (Sd h);refine #[q.toNat,s,?_,hq.2,h'.1.symm,h'.2.symm];rw [Int.toNat_of_nonneg hq.1]
     .rw [if_neg hq] at h;cases h
theorem uW {f:Nat} {p:Int} {r:List Int} {cs:List (List (List Int))} (h:T4 Tg f (p::r)=some cs):∃f' c t cs',f=f'+1/\PyFlat.call Tg (p::r)=some (c,t)/\T4 Tg f' t=some cs'/\cs=c::cs':=by
 cases f with
 |zero=>rw [T4] at h;cases h
 |succ f=>
  rw [T4] at h;cases e:PyFlat.call Tg (p::r) with
  |none=>rw [e] at h;cases h
  |some x=>
   obtain ⟨c,t⟩:=x;rw [e] at h;dsimp only at h;cases e2:T4 Tg f t with
   |none=>rw [e2] at h;cases h
   |some cs'=>rw [e2] at h;exact #[f,c,t,cs',rfl,rfl,e2,(Sd h).symm]
theorem xh (f:Nat) {cs:List (List (List Int))} (h:T4 Tg f []=some cs):cs=[]:=by cases f<;>(rw [T4] at h;exact (Sd h).symm)
theorem BI {m n:Nat} {ns:List Int} (hm:m<28) (hs:SZ[m]? =some n) (h3:m≠3) (h15:m≠15) (hl:ns.length=n):Fk m ns:=by
 have l0:ns.length=0->ns=[]:=(US).mp;have l:∀(t:List Int) (k:Nat),t.length=k+1->∃a u,t=a::u/\u.length=k:=λt k h=>(by cases t with|nil=>exact nomatch h|cons a u=>exact #[a,u,rfl,Nat.succ.inj h]);have l1:∀{t:List Int},t.length=1->Jx t:=λ{t} h=>(by obtain ⟨a,u,rfl,g⟩:=l t _ h;obtain rfl:=(US).mp g;exact #[a,rfl]);have l2:∀{t:List Int},t.length=2->vS t:=λ{t} h=>(by obtain ⟨a,u,rfl,g⟩:=l t _ h;obtain ⟨b,rfl⟩:=l1 g;exact #[a,b,rfl]);have l3:∀{t:List Int},t.length=3->Dh t:=λ{t} h=>(by obtain ⟨a,u,rfl,g⟩:=l t _ h;obtain ⟨b,d,rfl⟩:=l2 g;exact #[a,b,d,rfl]);have l4:∀{t:List Int},t.length=4->Rl t:=λ{t} h=>(by obtain ⟨a,u,rfl,g⟩:=l t _ h;obtain ⟨b,d,e,rfl⟩:=l3 g;exact #[a,b,d,e,rfl]);have l5:∀{t:List Int},t.length=5->Pp t:=λ{t} h=>(by obtain ⟨a,u,rfl,g⟩:=l t _ h;obtain ⟨b,d,e,f,rfl⟩:=l4 g;exact #[a,b,d,e,f,rfl]);subst hl
 match m,hm,h3,h15,hs with
 |0,_,_,_,e=>exact l1 (Sd e).symm
 |1,_,_,_,e=>exact l3 (Sd e).symm
 |2,_,_,_,e=>exact l1 (Sd e).symm
 |3,_,h,_,e=>exact absurd rfl h
 |4,_,_,_,e=>exact l1 (Sd e).symm
 |5,_,_,_,e=>exact l2 (Sd e).symm
 |6,_,_,_,e=>exact l2 (Sd e).symm
 |7,_,_,_,e=>exact l2 (Sd e).symm
 |8,_,_,_,e=>exact l3 (Sd e).symm
 |9,_,_,_,e=>exact l3 (Sd e).symm
 |10,_,_,_,e=>exact l2 (Sd e).symm
 |11,_,_,_,e=>exact l2 (Sd e).symm
 |12,_,_,_,e=>exact l2 (Sd e).symm
 |13,_,_,_,e=>exact l0 (Sd e).symm
 |14,_,_,_,e=>exact l2 (Sd e).symm
 |15,_,_,h,e=>exact absurd rfl h
 |16,_,_,_,e=>exact l1 (Sd e).symm
 |17,_,_,_,e=>exact l3 (Sd e).symm
 |18,_,_,_,e=>exact l3 (Sd e).symm
 |19,_,_,_,e=>exact l5 (Sd e).symm
 |20,_,_,_,e=>exact l5 (Sd e).symm
 |21,_,_,_,e=>exact l3 (Sd e).symm
 |22,_,_,_,e=>exact l0 (Sd e).symm
 |23,_,_,_,e=>exact l4 (Sd e).symm
 |24,_,_,_,e=>exact l3 (Sd e).symm
 |25,_,_,_,e=>exact l2 (Sd e).symm
 |26,_,_,_,e=>exact l2 (Sd e).symm
 |27,_,_,_,e=>exact l2 (Sd e).symm
 |m+28,h,_,_,_=>omega
theorem xi {m n:Nat} {xs ys:List Int} (hs:SZ[m]? =some n) (h:m=3\/m=15) (hl:xs.length=n):Fk m (xs++ys):=by
 rcases h with rfl|rfl
 .have e:n=3:=(Sd hs).symm;subst e
  match xs,hl with
  |[a,b,d],_=>exact #[a,b,d,ys,rfl]
 .have e:n=1:=(Sd hs).symm;subst e
  match xs,hl with
  |[a],_=>exact #[a,ys,rfl]
theorem rp {m n:Nat} {xs ys:List Int} (hs:SZ[m]? =some n) (h:m=3\/m=15) (hl:xs.length=n):cO m (xs++ys)=[(m:Int)::xs,ys]:=by
 rcases h with rfl|rfl
 .have e:n=3:=(Sd hs).symm;subst e
  match xs,hl with
  |[a,b,d],_=>rfl
 .have e:n=1:=(Sd hs).symm;subst e
  match xs,hl with
  |[a],_=>rfl
theorem pQ {m:Nat} {xs:List Int} (h3:m≠3) (h15:m≠15):cO m xs=[(m:Int)::xs]:=by unfold cO;rw [if_neg h3,if_neg h15]
theorem BJ {m:Nat} {ns:List Int} (hm:m<28) (h:Fk m ns):PyVbptaa.whole (cO m ns)=cO m ns:=by
 match m,hm,h with
 |0,_,h=>obtain ⟨a,rfl⟩:=h;rfl
 |1,_,h=>obtain ⟨a,b,d,rfl⟩:=h;rfl
 |2,_,h=>obtain ⟨a,rfl⟩:=h;rfl
 |3,_,h=>obtain ⟨a,b,d,t,rfl⟩:=h;rfl
 |4,_,h=>obtain ⟨a,rfl⟩:=h;rfl
 |5,_,h=>obtain ⟨a,b,rfl⟩:=h;rfl
 |6,_,h=>obtain ⟨a,b,rfl⟩:=h;rfl
 |7,_,h=>obtain ⟨a,b,rfl⟩:=h;rfl
 |8,_,h=>obtain ⟨a,b,d,rfl⟩:=h;rfl
 |9,_,h=>obtain ⟨a,b,d,rfl⟩:=h;rfl
 |10,_,h=>obtain ⟨a,b,rfl⟩:=h;rfl
 |11,_,h=>obtain ⟨a,b,rfl⟩:=h;rfl
 |12,_,h=>obtain ⟨a,b,rfl⟩:=h;rfl
 |13,_,h=>have h:ns=[]:=h;subst h;rfl
 |14,_,h=>obtain ⟨a,b,rfl⟩:=h;rfl
 |15,_,h=>obtain ⟨a,t,rfl⟩:=h;rfl
 |16,_,h=>obtain ⟨a,rfl⟩:=h;rfl
 |17,_,h=>obtain ⟨a,b,d,rfl⟩:=h;rfl
 |18,_,h=>obtain ⟨a,b,d,rfl⟩:=h;rfl
 |19,_,h=>obtain ⟨a,b,d,e,f,rfl⟩:=h;rfl
 |20,_,h=>obtain ⟨a,b,d,e,f,rfl⟩:=h;rfl
 |21,_,h=>obtain ⟨a,b,d,rfl⟩:=h;rfl
 |22,_,h=>have h:ns=[]:=h;subst h;rfl
 |23,_,h=>obtain ⟨a,b,d,e,rfl⟩:=h;rfl
 |24,_,h=>obtain ⟨a,b,d,rfl⟩:=h;rfl
 |25,_,h=>obtain ⟨a,b,rfl⟩:=h;rfl
 |26,_,h=>obtain ⟨a,b,rfl⟩:=h;rfl
 |27,_,h=>obtain ⟨a,b,rfl⟩:=h;rfl
 |m+28,h,_=>omega
theorem Dv {l t:List Int} {c:List (List Int)} (h:PyFlat.call Tg l=some (c,t)):PyVbptaa.whole c=c:=by
 obtain ⟨m,n,r,rfl,hm,hs,hn,h⟩:=xg h;rcases h with ⟨h3,h15,rfl,_⟩|⟨hm3,q,s,_,_,rfl,_⟩
 .rw [<-pQ h3 h15];exact BJ hm (BI hm hs h3 h15 (by rw [S8];omega))
 .rw [<-rp hs hm3 (by rw [S8];omega)];exact BJ hm (xi hs hm3 (by rw [S8];omega))
theorem rq:∀{f:Nat} {l:List Int} {cs:List (List (List Int))},T4 Tg f l=some cs->cs.map PyVbptaa.whole=cs
 |f,[],cs,h=>by rw [xh f h];rfl
 |f,p::r,cs,h=>by obtain ⟨f',c,t,cs',rfl,h1,h2,rfl⟩:=uW h;rw [S1,Dv h1,rq h2]
 termination_by f=>f
 decreasing_by omega
theorem Dx {ns:List Int} (h:PyVbptaa.answers_asked ns=true):∃cs,T4 Tg ns.length ns=some cs/\cs.length<=400/\PyVbptaa.answers ns=PyFlat.told (PyFlat.played UN Vbptaa.start cs):=by
 unfold PyVbptaa.answers_asked at h;unfold PyVbptaa.answers;cases e:T4 Tg ns.length ns with
 |none=>
  have:PyVbptaa.calls ns=none:=by unfold PyVbptaa.calls;rw [e]
  rw [this] at h;cases h
 |some cs=>
  have:PyVbptaa.calls ns=some cs:=by unfold PyVbptaa.calls;rw [e];show some (cs.map PyVbptaa.whole)=some cs;rw [rq e]
  rw [this] at h ⊢;have h':=Bool.and_eq_true_iff.mp h;exact #[cs,rfl,by simpa [PyFlat.atMost] using h'.1,rfl]
theorem Fp {st:State} {c:List (List Int)} {cs:List (List (List Int))}:PyFlat.told (PyFlat.played UN st (c::cs))=(((UN st c).2.length:Int)::(UN st c).2)++PyFlat.told (PyFlat.played UN (UN st c).1 cs):=rfl
end
theorem uX {K:UT} {H H':Hp} {a:KE} {xs:List V} (h:cB K H a xs) (k:∀o,H a=some o->Nd o->H' a=some o):cB K H' a xs:=by
 rcases h with (h|⟨o,h⟩)|h
 .exact .inl (.inl (k _ h trivial))
 .exact .inl (.inr #[o,k _ h trivial])
 .exact .inr h
theorem BK (xs:List V) (j k:Nat) (hk:k<=xs.length) (hj:j<=k):fD xs (some (j:Int)) (some (k:Int))=(xs.drop j).take (k - j):=by unfold fD;rw [HT.ss,HT.ss,Nat.min_eq_left (by omega),Nat.min_eq_left (by omega)]
section
theorem cj:al ["calls","office","given","at","number","behind","numbers","begin","answer"] ["calls"] (ah (top 158)):=by ext
structure Lp (c:Cl) (K:UT) (O:OA) (a:KE) (ns:List Int) (m:Nat) (i:Nat) (H:Hp):Prop where
 x:∃(pas:List (KE×CA)) (st:State) (given:List Int) (cs:List (List (List Int))) (f:Nat),m=cs.length/\T4 Tg f (ns.drop i)=some cs/\given++PyFlat.told (PyFlat.played UN st cs)=PyVbptaa.answers ns/\given.length+1001*cs.length<=400400/\bI c O pas H st/\H O.G=some (.lst (given.map V.int))
 sq:cB K H a (ns.map V.int)
 le:i<=ns.length
theorem Dy (T:Tx) (hN:jS K mg base c.tab) {f:KE} {fd:Uf} (F:wp K "answers" "answers" (top 158) f fd):gE P w K mg base d8 72 f fd ["calls"] (gi c K):=by
 refine F.ok cj (λvs H Q E h=>by obtain ⟨a,ns,rfl,_⟩:=h;rfl) (λcdv A outer s H vs Q E hr h=>?_);obtain ⟨a,ns,rfl,hA,hT,hlen,hask,k⟩:=h;obtain ⟨aS,h_SIZES,hS⟩:=T.HY;obtain ⟨aW,h_WITH_TEXT,hW⟩:=T.zU;obtain ⟨cs,hcs,hc4,hans⟩:=Dx hask;exists (aa (bt 1 cj.nd (CC (Fo T) hr.m rfl bq))
  (aa (bt 2 cj.nd (aQ fi))
  (aa (bt 3 cj.nd ag)
  (aa (gC Tb (aA sZ (pv 3) (aJ cu (by rfl) T.eQ S0 (aV (pv 0))) (aE _)) (aa (bt 4 cj.nd (cR (pv 0) (pv 3)))
  (aa (bt 5 cj.nd (az aP (az aP (pv 3) ag) (k9 (gR h_SIZES rfl) (pv 4))))
  (aa (bt 6 cj.nd (cX ic (pv 0) (cr (az aP (pv 3) ag)) (cr (pv 5))))
  (aa (aL (aA EF (pv 4) (gR h_WITH_TEXT rfl) rfl) (aa (bt 7 cj.nd (az aP (pv 5) ag))
  (aa (bt 5 cj.nd (az aP (pv 7) (cR (pv 0) (pv 5))))
  (ac (bt 6 cj.nd (az xX (pv 6) (cX ic (pv 0) (cr (pv 7)) (cr (pv 5)))))))) aC)
  (aa (bt 8 cj.nd (fW (mw T hN) hr.m (dH (pv 1) (pv 4) (pv 6))))
  (aa (bA (dG Sr SD SF bD (pv 2) (aV (aJ cu (by rfl) T.eQ S0 (aV (pv 8))))))
  (aa (bA (dG Sr T5 UG wC (pv 2) (aV (pv 8))))
  (ac (bt 3 cj.nd (pv 5)))))))))))
  (ac (am (pv 2)))))))
 rfl';intro o dx ho hdx hne;have s0:aj H (upd (upd H dx (.own o)) o (.ins c.dW dx [])):=(aj.upd hdx).trans (aj.upd (by rw [ai (λz=>hne z.symm)];exact ho));refine #[o,dx,rfl,ae,hT.to (λps e=>s0 _ _ e) (λb φ e=>s0 _ _ e),λH1 O' pas hO hR kp1 hLX=>#[rfl,?_]];rfl';refine #[by decide,λG hG=>?_];rfl';have R:=hR G hG;subst hO;have nA:cB K (upd H1 G (.lst [])) a (ns.map V.int)/\∀{H2 H3:Hp},(∀b u,H2 b=some u->b≠O'.o->b≠O'.L->b≠O'.X->b≠G->Nd u->H3 b=some u)->cB K H2 a (ns.map V.int)->cB K H3 a (ns.map V.int):=by
  have key:∀u,H a=some u->Nd u->upd H1 G (.lst []) a=some u/\a≠O'.o/\a≠O'.L/\a≠O'.X/\a≠G:=λu e _=>by have e1:=kp1 _ _ (s0 _ _ e) (ak e ho);exact #[aj.upd hG _ _ e1,ak e ho,λz=>(by have:=s0.free (hLX a (.inl z));rw [e] at this;cases this),λz=>(by have:=s0.free (hLX a (.inr z));rw [e] at this;cases this),ak e1 hG]
  refine #[uX hA λu e h=>(key u e h).1,λ{H2 H3} k2 q=>?_];rcases hA with (e|⟨ob,e⟩)|e
  .obtain ⟨_,n1,n2,n3,n4⟩:=key _ e trivial;exact uX q λu e h=>k2 _ _ e n1 n2 n3 n4 h
  .obtain ⟨_,n1,n2,n3,n4⟩:=key _ e trivial;exact uX q λu e h=>k2 _ _ e n1 n2 n3 n4 h
  .exact .inr e
 obtain ⟨sq0,keepA⟩:=nA;generalize hOO:({O' with G:=G}:OA)=O at R;have eo:O'.o=O.o:=by rw [<-hOO]
 have eG:G=O.G:=by rw [<-hOO]
 replace keepA:∀{H2 H3:Hp},(∀b u,H2 b=some u->b≠O.o->b≠O.L->b≠O.X->b≠O.G->Nd u->H3 b=some u)->cB K H2 a (ns.map V.int)->cB K H3 a (ns.map V.int):=λ{H2 H3}=>by rw [<-hOO];exact keepA
 rw [eo];have hG0:upd H1 G (.lst []) O.G=some (.lst []):=by rw [<-eG];exact ae
 generalize upd H1 G (.lst [])=H4 at R sq0 hG0 ⊢;rw [eG];refine lE (λm σ' H'=>∃(i:Nat) (v4 v5 v6 v7 v8:Option V),Lp c K O a ns m i H'/\σ'=[some (.ref a),some (.ref O.o),some (.ref O.G),some (.int (i:Nat)),v4,v5,v6,v7,v8]) (m0:=cs.length) #[0,none,none,none,none,none,#[#[pas,Vbptaa.start,[],cs,_,rfl,hcs,hans.symm,by show 0+_<=_;omega,R,hG0],sq0,SW _],rfl] ?_;clear hcs hc4 hans R sq0 hG0 hR kp1 hLX;rintro m σ' H' ⟨i,v4,v5,v6,v7,v8,⟨⟨pas,st,given,cs,f,rfl,hc,hg,hl,R,hG⟩,sq,hi⟩,rfl⟩;rfl';refine LN sq ?_;rfl';rw [w4];by_cases hlt:(i:Int)<(ns.length:Nat)
 .rw [if_pos hlt];have hlt':i<ns.length:=by omega
  obtain ⟨f',cl,t,cs',rfl,hc1,hc2,rfl⟩:=uW (by rw [List.drop_eq_getElem_cons hlt'] at hc;exact hc);obtain ⟨m,n,r,he,hm,hs,hn,hcase⟩:=xg hc1;have hat:ns[i]? =some (m:Int):=by rw [Ss hlt',(List.cons.inj he).1]
  have hr:r=ns.drop (i+1):=(List.cons.inj he).2.symm;subst hr;rw [SQ] at hn;refine #[λσ' H'=>∃(i:Nat) (v4 v5 v6 v7 v8:Option V),Lp c K O a ns cs'.length i H'/\σ'=[some (.ref a),some (.ref O.o),some (.ref O.G),some (.int (i:Nat)),v4,v5,v6,v7,v8],λσ2 H2 h=>#[cs'.length,UH _,h],?_];rfl';refine oW sq (su (by rw [SO,hat];rfl)) ?_;rfl';refine J7 (hS _) (v:=.int (n:Nat)) (su (by show (SZ.map λn=>V.int (n:Nat))[m]? =_;rw [SO,hs];rfl)) ?_
  rfl';refine #[a,_,rfl,sq,λp hp=>?_];rw [show fD (ns.map V.int) (some ((i:Int)+1)) (some ((i:Int)+1+(n:Nat)))=((ns.drop (i+1)).take n).map V.int by have:=BK (ns.map V.int) (i+1) (i+1+n) (by rw [w4];omega) (by omega);rw [show i+1+n -(i+1)=n by omega] at this;rw [<-List.map_drop,<-List.map_take] at this;exact this]
  rfl';refine #[aW,_,rfl,.inr (hW _),rfl,by decide,?_];rfl';have s1:=aj.upd (o:=.lst (((ns.drop (i+1)).take n).map V.int)) hp;have hp1:upd H' p (.lst (((ns.drop (i+1)).take n).map V.int)) p=_:=ae;have sq1:=uX sq λu e _=>s1 _ _ e;have hG1:=s1 _ _ hG;have R1:=R.same s1;generalize upd H' p (.lst (((ns.drop (i+1)).take n).map V.int))=H5 at s1 hp1 sq1 hG1 R1 ⊢;have htl:((ns.drop (i+1)).take n).length=n:=by rw [S8,SQ];omega
  have tail:∀(H6:Hp) (numbers:List Int) (b:Nat),aj H5 H6->cO m numbers=cl->t=ns.drop b->b<=ns.length->∀(H7:Hp) (y:KE) (pas':List (KE×CA)),bI c O pas' H7 (step st (cO m numbers)).1->vR O H6 H7->H7 y=some (.lst ((step st (cO m numbers)).2.map V.int))->(step st (cO m numbers)).2.length<=1000->y≠O.G->
   H7 O.G=some (.lst (given.map V.int))/\(given.map V.int).length<400400/\
    (upd H7 O.G (.lst (given.map V.int++[V.int ((step st (cO m numbers)).2.map V.int).length]))) y=some (.lst ((step st (cO m numbers)).2.map V.int))/\
    (given.map V.int++[V.int ((step st (cO m numbers)).2.map V.int).length]).length+((step st (cO m numbers)).2.map V.int).length<=402000/\
    Lp c K O a ns cs'.length b (upd (upd H7 O.G (.lst (given.map V.int++[V.int ((step st (cO m numbers)).2.map V.int).length]))) O.G (.lst (given.map V.int++[V.int ((step st (cO m numbers)).2.map V.int).length]++(step st (cO m numbers)).2.map V.int))):=by
   intro H6 numbers b s6 hcl htb hb H7 y pas' R7 kp7 hy hyl hyG;rw [hcl] at R7 hy hyl ⊢;obtain ⟨so1,ho1,_⟩:=R1.obj;have hG7:H7 O.G=some (.lst (given.map V.int)):=kp7 _ _ (s6 _ _ hG1) (aX hG1 ho1 nofun) (λz=>R1.gv.2.1 z.symm) (λz=>R1.gv.2.2 z.symm) trivial;rw [Si] at hl;refine #[hG7,by rw [w4];omega,by rw [ai hyG];exact hy,by rw [Sq,w4,w4];show _+1+_<=_;omega,⟨⟨pas',(step st cl).1,given++(((step st cl).2.length:Int)::(step st cl).2),cs',f',rfl,by rw [<-htb];exact hc2,?_,?_,(R7.Ph _).Ph _,?_⟩,?_,hb⟩]
   .rw [Fp] at hg;rw [Tq];exact hg
   .rw [Sq,Si];omega
   .rw [ae,Sw,S1,w4,Tq];rfl
   .refine keepA (λb u e n1 n2 n3 n4 hn=>?_) sq1;rw [ai n4,ai n4];exact kp7 _ _ (s6 _ _ e) n1 n2 n3 hn
  have hbe:((i:Int)+1+(n:Nat))=((i+1+n:Nat):Int):=rfl;rcases hcase with ⟨h3,h15,hcl,ht⟩|⟨h3,q,sx,hd,hq,hcl,ht⟩
  .rw [if_neg (by show¬Iv (V.int (m:Nat)) [V.int 3,V.int 15]=true;unfold Iv zm;simp;omega)]
   rfl';refine #[O,pas,st,m,p,(ns.drop (i+1)).take n,rfl,hm,R1,hp1,BI hm hs h3 h15 htl,λH7 y pas' R7 kp7 hy hyl hyG=>?_];obtain ⟨g1,g2,g3,g4,g5⟩:=tail H5 _ (i+1+n) (aj.refl _) (by rw [pQ h3 h15];exact hcl.symm) (by rw [ht,TF]) (by omega) H7 y pas' R7 kp7 hy hyl hyG;rfl';refine bN g1 (Nat.lt_trans g2 (by decide)) ?_;have g0:=ae (H:=H7) (a:=O.G) (o:=.lst (given.map V.int++[V.int ((step st (cO m ((ns.drop (i+1)).take n))).2.map V.int).length]));rfl';refine qv ae g3 (SA g4 (by decide)) ?_;rfl';exact #[i+1+n,_,_,_,_,_,g5,rfl]
  .rw [if_pos (by show Iv (V.int (m:Nat)) [V.int 3,V.int 15]=true;unfold Iv zm;simp;omega)]
   have hd2:ns.drop (i+1+n)=(q:Int)::sx:=by rw [<-hd,TF]
   have hq2:ns[i+1+n]? =some (q:Int):=by have:=congrArg (λl=>l[0]?) hd2;rw [Um] at this;exact this
   have hsx:sx=ns.drop (i+1+n+1):=by have:=congrArg (λl=>l.drop 1) hd2;rw [TF] at this;exact this.symm
   have hl2:i+1+n<ns.length:=((Sl).mp hq2).1;rw [hsx,SQ] at hq;rfl';rw [hbe];refine oW sq1 (su (by rw [SO,hq2];rfl)) ?_;rfl';refine #[a,_,rfl,sq1,λp2 hp2=>?_];rw [show fD (ns.map V.int) (some (((i+1+n:Nat):Int)+1)) (some (((i+1+n:Nat):Int)+1+(q:Nat)))=(sx.take q).map V.int by have:=BK (ns.map V.int) (i+1+n+1) (i+1+n+1+q) (by rw [w4];omega) (by omega);rw [show i+1+n+1+q -(i+1+n+1)=q by omega] at this;rw [<-List.map_drop,<-List.map_take,<-hsx] at this;exact this]
   have hxl:(sx.take q).length=q:=by rw [S8,hsx,SQ];omega
   refine DQ (aj.upd hp2 _ _ hp1) ae (by rw [w4,w4,htl,hxl];exact SA (by omega:n+q<=16000) (by decide)) λp3 hp3=>?_;have s3:=(aj.upd (o:=.lst ((sx.take q).map V.int)) hp2).trans (aj.upd (o:=.lst (((ns.drop (i+1)).take n).map V.int++(sx.take q).map V.int)) hp3);rfl';refine #[O,pas,st,m,p3,(ns.drop (i+1)).take n++sx.take q,rfl,hm,R1.same s3,by rw [ae,Sw],xi hs h3 htl,λH7 y pas' R7 kp7 hy hyl hyG=>?_];obtain ⟨g1,g2,g3,g4,g5⟩:=tail _ _ (i+1+n+1+q) s3 (by rw [rp hs h3 htl];exact hcl.symm) (by rw [ht,hsx,TF]) (by omega) H7 y pas' R7 kp7 hy hyl hyG;rfl';refine bN g1 (Nat.lt_trans g2 (by decide)) ?_;have g0:=ae (H:=H7) (a:=O.G) (o:=.lst (given.map V.int++[V.int ((step st (cO m ((ns.drop (i+1)).take n++sx.take q))).2.map V.int).length]));rfl';refine qv ae g3 (SA g4 (by decide)) ?_;rfl';exact #[i+1+n+1+q,_,_,_,_,_,g5,rfl]
 .rw [if_neg hlt];have e:ns.drop i=[]:=List.drop_of_length_le (by omega);rw [e] at hc;have:=xh _ hc;subst this;rw [show PyFlat.told (PyFlat.played UN st [])=[] from rfl,Td] at hg;rfl';exact k _ _ (by rw [hG,hg]) (by rw [<-hg];omega)
end
theorem fn_all {P:SN} {w:S_} {K:UT} {mg:Str->Option UU} {base:Ti} {c:Cl} (T:Txt P w K mg c) (hN:jS K mg base c.tab) {f:KE} {fd:Uf} (F:wp K "answers" "answers" (top 158) f fd):gE P w K mg base d8 72 f fd ["calls"] (gi c K):=Ml Dy #[P,w,K,mg,base,c] T hN F
end OL
namespace OL
open PySem PySem.Spec PyProof.Rows L2
open PySem.W (WData Codec OpenSpec Well WellAll ReadsW ReadsAllW)
theorem HN {P:SN} {w:S_} {K:UT} {mg mb:Str->Option UU} {fa cc:KE} {fd:Uf} {s₁:Se} {vals:List UU} {ds:List WData} {R:PySem.W.WRecords} {cl:Str->Option KE} {d0:WData} {c:Cl}
 (KX:K.In s₁.heap) (hns:s₁.heap.Ns mainGlobals mg) (hb:s₁.heap.Ns builtinsNs mb) (hbb:∀x:Str,x≠ "__name__" ->mb x=bootBuiltins x) (hlim:s₁.heap.NoLimit) (hg:s₁.gens= #[])
 (hwl:WellAll w.params s₁.heap vals ds) (hpl:rM ds=true) (hwt:∀d∈ds,d.weight<=1048576) (hr:cE 72 callerA)
 (hcd:PySem.W.CodeHd s₁.heap cc c.tab) (htb:s₁.heap.get? c.tab=some (PySem.W.tabObj #[])) (hKt:K.lookup c.tab=none) (hbm:BMain mg s₁.heap)
 (hcode:∀f oc od fd osl,mg "numbers_by_minute" =some (.ref f)->K.lookup f=some #[oc,od,.func fd,osl]->fd.code= .ref cc) (hic:isCodeTable s₁.heap c.tab)
 (F:∀base:Ti,K.In base->base.Ns mainGlobals mg->jS K mg base c.tab->gE P w K mg base d8 72 fa fd ["calls"] (gi c K)) (hbind:∀(s:Se) (us:List UU),us.length=1->BindsTo s fd #[us,[]] ((["calls"]:List Str).zip us)) (hlen:ds.length=1)
 (hsp:∀(H:Hp) (xs:List V),H c.tab=none->nk K H xs ds->gi c K xs (upd H c.tab (.jC #[])) (λv H'=>Dw K H' v d0) λ_ _ _=>False):
 codeAny (model P w) callerA (.call (.ref fa) #[vals,[]]) (λr s'=>∃u as,r= .ok (.ret u)/\ReadsW R cl s'.heap u d0 as/\OldK s₁.heap s'.heap/\s'.os=s₁.os/\AllBare s'.gens) s₁:=by
 obtain ⟨A,ho,ar⟩:=oY ds vals hwl hpl hwt;have hO:J_ (lg K s₁.heap A):=ES ar;have a7:iO P w (upd (lg K s₁.heap A) c.tab (.jC #[])) s₁.heap:=λb u q=>by
  by_cases z:b=c.tab
  .rw [z,ae] at q;cases q;rw [z];exact htb
  .rw [ai z] at q;obtain ⟨_,vs,h1,h2,⟨e,rfl⟩|⟨e,rfl⟩⟩:=oZ ar q
   .exact #[e,by rw [w4];exact h1,vs,_,jL h2,e]
   .exact #[e,by rw [w4];exact h1,vs,jL h2,_,e,rfl,_,rfl]
 have hS:=yo KX ar ds vals hwl hpl ho;have hV:=jL ho;have hK:∀b u,lg K s₁.heap A b=some u->K.lookup b=none:=λb u q=>(oZ ar q).1;have cls:∀b u,lg K s₁.heap A b=some u->∃ob,s₁.heap.get? b=some ob/\(ob.cls= .type "list" \/ob.cls= .type "tuple"):=λb u q=>by
  obtain ⟨_,vs,_,_,⟨e2,_⟩|⟨e2,_⟩⟩:=oZ ar q
  .exact #[_,e2,.inl rfl]
  .exact #[_,e2,.inr rfl]
 have noD:∀b u o es ep,lg K s₁.heap A b=some u->s₁.heap.get? b=some o->o.data= .dict es ep->False:=λb u o es ep q e d=>by
  obtain ⟨_,vs,_,_,⟨e2,_⟩|⟨e2,_⟩⟩:=oZ ar q
  .rw [e2] at e;cases e;have d':Data.seq vs.toArray _=Data.dict es ep:=d;cases d'
  .rw [e2] at e;cases e;have d':Data.seq vs.toArray _=Data.dict es ep:=d;cases d'
 generalize lg K s₁.heap A=H at hO a7 hS hK cls noD;have free:∀{b:KE} {o:Obj},s₁.heap.get? b=some o->o.cls≠.type "list" ->o.cls≠.type "tuple" ->H b=none:=λ{b o} e n1 n2=>by
  cases q:H b with
  |none=>rfl
  |some u=>obtain ⟨ob,e2,h⟩:=cls b u q;rw [e] at e2;cases e2;exact (h.elim n1 n2).elim
 have ht0:H c.tab=none:=free htb nofun nofun;have free2:∀{b:KE} {o:Obj},s₁.heap.get? b=some o->o.cls≠.type "list" ->o.cls≠.type "tuple" ->o≠PySem.W.tabObj #[]->upd H c.tab (.jC #[]) b=none:=λ{b o} e n1 n2 n3=>by rw [ai (λz=>n3 (by rw [z,htb] at e;exact (Sd e).symm))];exact free e n1 n2
 have base_of:∀{b:KE} {o:Obj},s₁.heap.get? b=some o->upd H c.tab (.jC #[]) b=none->(vq s₁.heap (upd H c.tab (.jC #[]))).get? b=some o:=λe n=>FC e n;have noA:∀{b:KE} {o:Obj} {es:Array DictEntry} {ep:Nat},s₁.heap.get? b=some o->o.data= .dict es ep->upd H c.tab (.jC #[]) b=none:=λ{b o es ep} e d=>by
  rw [ai (λz=>by rw [z,htb] at e;rw [<-Sd e] at d;cases d)];cases q:H b with
  |none=>rfl
  |some u=>exact (noD b u o es ep q e d).elim
 have nsK:∀{b:KE} {m:Str->Option UU},s₁.heap.Ns b m->(vq s₁.heap (upd H c.tab (.jC #[]))).Ns b m:=λ{b m} ⟨o,es,ep,e,d,r⟩=>#[o,es,ep,base_of e (noA e d),d,r];have nK:∀b o,K.lookup b=some o->upd H c.tab (.jC #[]) b=none:=λb o e=>by
  rw [ai (λz=>by rw [z,hKt] at e;cases e)];cases q:H b with
  |none=>rfl
  |some u=>rw [hK b u q] at e;cases e
 have hKb:K.In (vq s₁.heap (upd H c.tab (.jC #[]))):=λb o e=>base_of (KX b o e) (nK b o e);have hM:Mod K mg (vq s₁.heap (upd H c.tab (.jC #[]))):=#[hKb,nsK hns,#[mb,nsK hb,hbb],let ⟨mc,h1,h2⟩:=hlim;⟨mc,nsK h1,h2⟩];have hN:jS K mg (vq s₁.heap (upd H c.tab (.jC #[]))) c.tab:=by
  refine #[λf oc od fd osl h1 h2=>#[cc,hcode f oc od fd osl h1 h2,?_],?_]
  .obtain ⟨o,vs,file,tf,flags,tg,inF,text,tt,e,e1,r⟩:=hcd;exact #[o,vs,file,tf,flags,tg,inF,text,tt,base_of e (free2 e (by rw [e1];decide) (by rw [e1];decide) λz=>by rw [z] at e1;cases e1),e1,r]
  .obtain ⟨bm,ob,b1,b2,b3,b4,r⟩:=hbm;exact #[bm,ob,b1,b2,base_of b3 (free2 b3 (by rw [b4];decide) (by rw [b4];decide) λz=>by rw [z] at b4;cases b4),b4,r]
 have e0:Cn P w K mg (vq s₁.heap (upd H c.tab (.jC #[]))) callerA [] s₁ (upd H c.tab (.jC #[])):=#[rfl,hM,λb o e=>Ia e,Nat.le_of_eq (Er _ _),trivial,λb hb=>absurd (show b∈([]:List KE) from hb) (by simp),a7,.of_eq hg];have hl:vals.length=1:=by rw [iU hwl];exact hlen
 refine codeAny_mono ((F _ hKb (nsK hns) hN).run callerA [] s₁ (upd H c.tab (.jC #[])) #[vals,[]] vals (vals.map toV) _ _ hr e0 (hbind s₁ vals hl) hV (hsp H _ ht0 hS)) λr s' x=>?_;cases r with
 |error e=>exact TD x
 |ok fl=>
  cases fl with
  |next=>exact TD x
  |brk=>exact TD x
  |cont=>exact TD x
  |ret u=>
   obtain ⟨v,H',os,bare,un,hok',r',q⟩:=x;have kept:∀b o,s₁.heap.get? b=some o->b≠c.tab->s'.heap.get? b=some o:=λb o e nb=>by
    cases q2:H b with
    |none=>exact un.keep b o e (by rw [ai nb];exact q2) (by intro z;exact absurd (show b∈([]:List KE) from z) (by simp)) (by simp)
    |some u2=>
     rcases hO b with z|⟨ob,u3,z⟩
     .rw [q2] at z;cases z
     .have z0:upd H c.tab (.jC #[]) b=some (.u0 ob u3):=by rw [ai nb];exact z
      have z2:=un.p_ b ob _ z0;obtain ⟨e1,_⟩:=a7 b _ z0;obtain ⟨e2,_⟩:=hok' b _ z2;rw [e] at e1;cases e1;exact e2
   obtain ⟨more,hm⟩:=un.qa c.tab #[] ae;have htb':s'.heap.get? c.tab=some (PySem.W.tabObj (#[]++more)):=hok' _ _ hm;have KX':K.In s'.heap:=λb o e=>kept b o (KX b o e) λz=>by rw [z,hKt] at e;cases e
   obtain ⟨as,hrd⟩:=Dw.reads (R:=R) (cl:=cl) hok' KX' d0 v u q r';refine #[u,as,rfl,hrd,#[λb o e=>?_,λb o e=>?_],os,bare]
   .by_cases z:b=c.tab
    .rw [z] at e ⊢;rw [htb] at e;cases e;exact .inr (.inl #[hic,rfl,#[],more,rfl,htb'])
    .exact .inl (kept b o e z)
   .by_cases z:b=c.tab
    .rw [z];exact #[_,htb']
    .exact #[o,kept b o e z]
theorem M2 {q:SN} {loose:List Str} {XP:(Str->Option UU)->Ti->Prop} {YP:S_->Ti->Prop} {d dn:DefRec} {K:Params->UT} (c:Cl) {cc:KE}
 (hwell:PySem.Challenge.rw_openlimits_s01_answers.wellSaid=true) (hdn:d.name= "answers") (hr:cE 72 callerA)
 (hY:∀(w:S_) (h:Ti),YP w h->(K w.params).In h)
 (hn:(recsOf q).find? (λe=>e.name==("numbers_by_minute" :Str))=some dn)
 (htab:∀w:S_,PySem.W.tabIn (K w.params) "numbers_by_minute" =some (cc,c.tab))
 (hKt:∀w:S_,(K w.params).lookup c.tab=none)
 (hT:∀(w:S_) (mg:Str->Option UU) (h:Ti),(K w.params).In h->h.Ns mainGlobals mg->Txt PySem.Challenge.rw_openlimits_s01_answers.prog w (K w.params) mg c):
 PySem.W.WalkOS q loose XP YP PySem.Challenge.rw_openlimits_s01_answers d [] (λf vs=>PySem.call f vs):=by
 intro w sr s₁ mg mb G Y fa o pm cd doc dV kV ho hd hcd hD hmg hg args vals as hpre hlay hrd hwl hlo;obtain ⟨a,e1,e2⟩:=PySem.W.os_pre_some hpre;obtain ⟨e3,hwi⟩:=Codec.encAll_of_decAll _ args a e1;subst e3;have KX:=hY w _ Y;have T:=hT w mg _ KX G.T.g;obtain ⟨t1,t2⟩:=PySem.W.tab_of G.T KX hn (htab w);obtain ⟨f,fd,ef,F⟩:=T.Em;rw [hdn,ef] at hmg;cases hmg;obtain ⟨oc,od,kV',doc',pm',an,cdv,ct,osl,efd,lk,hcd'⟩:=id F.ex;refine PySem.W.enter_call (codeAny_mono (HN (c:=c) (R:=[]) (cl:=classAt sr.heap) (fd:=fd) (d0:=PySem.Challenge.rw_openlimits_s01_answers.ret.enc (Codec.app PySem.Challenge.rw_openlimits_s01_answers.args PySem.Challenge.rw_openlimits_s01_answers.f a)) KX G.T.g G.T.b G.T.builtins G.T.nolimit hg hwl (wQ _ _) (tW hlay) hr t1 t2 (hKt w) G.T.bmain
  (λf' oc' od' fd' osl' h1 h2=>PySem.W.law_code KX G.T.g (htab w) h1 (KX _ _ h2) rfl) (t1.tab t2).isCodeTable (λbase _ _ hN=>fn_all T hN F) ?_ rfl ?_) λr' s' hq=>?_)
 .intro s us hu;subst efd
  match us,hu with
  |[_],_=>exact .of_eq rfl
 .intro H xs ht hS;cases hS with
  |cons h1 h2=>
   cases h2;cases h1 with
   |lst hs ha=>have e:=DV a.1 _ ha;subst e;have q:((Codec.inLen 0 16000 a.1&&a.1.all (Codec.inInt _ _))&&true)=true:=hwi;rw [S9,S9] at q;refine #[_,a.1,rfl,uX hs λu e _=>?_,#[#[],ae,.inl rfl],(Codec.inNat_iff.mp q.1.1).2,e2,λH' p hp _=>.lst (cB.of hp) (DU _)];rw [ai (ak e ht)];exact e
 .obtain ⟨u,as',rfl,h1,h2,h3,h4⟩:=hq;exact #[.inl #[u,_,as',rfl,λ_=>rfl,h1,(OpenSpec.post_iff hwell hwi _ _).mpr rfl,λz=>To (show false=true from z)],h2,h3,h4]
section
variable {P:SN} {w:S_} {K:UT} {h:Ti} {mg:Str->Option UU}
end
end OL
end
theorem PySem.Challenge.cw_openlimits_s01_answers_holds : PySem.Challenge.rw_openlimits_s01_answers.Holds := by
 exact PySem.Challenge.cx OL.M2
#print axioms PySem.Challenge.cw_openlimits_s01_answers_holds